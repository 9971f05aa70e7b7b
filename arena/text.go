package arena

import (
	"strings"

	"echelon/api"
)

const lineFeed = "\n"

// Parse reads a map; with an error the line (P6.2).
func Parse(text string) (api.Arena, api.Errno, int) {
	if len(text) > api.MaxText {
		return api.Arena{}, api.ErrLong, 0
	}
	a, line := read(text)
	if line > 0 {
		return api.Arena{}, api.ErrArenaText, line
	}
	if errno := Check(a); errno != api.OK {
		return api.Arena{}, errno, 0
	}
	return a, api.OK, 0
}

// badLine is what reading is given up with: the number of the line that is none.
type badLine int

// read is the map that the lines of a text are; or the number of the first one that is none.
func read(text string) (a api.Arena, bad int) {
	defer func() {
		if line, is := recover().(badLine); is {
			a, bad = api.Arena{}, int(line)
		}
	}()
	var signs strings.Builder
	// An empty text has a first line, too: one without a line feed.
	for more := true; more; more = text != "" {
		line, rest, ended := strings.Cut(text, lineFeed)
		if a.Rows == 0 {
			a.Cols = len(line)
		}
		a.Rows++
		if !ended || !isRow(a, line) {
			panic(badLine(a.Rows))
		}
		signs.WriteString(line)
		text = rest
	}
	a.Signs = signs.String()
	return a, 0
}

// isRow tells whether a line may be the last one so far of a map with these sides.
func isRow(a api.Arena, line string) bool {
	return a.Rows <= api.MaxRows && within(a.Cols, leastSide, api.MaxCols) && len(line) == a.Cols && allSigns(line)
}

// Print is a map as text (P6.2).
func Print(a api.Arena) (string, api.Errno) {
	if errno := Check(a); errno != api.OK {
		return "", errno
	}
	var text strings.Builder
	for row := range a.Rows {
		text.WriteString(a.Signs[row*a.Cols : (row+1)*a.Cols])
		text.WriteString(lineFeed)
	}
	return text.String(), api.OK
}
