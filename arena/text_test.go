package arena_test

import (
	"math/rand"
	"strings"
	"testing"

	"echelon/api"
	"echelon/arena"
)

func meantPrint(a api.Arena) string {
	text := ""
	for row := range a.Rows {
		for col := range a.Cols {
			text += string(rune(a.Signs[row*a.Cols+col]))
		}
		text += "\n"
	}
	return text
}

// meantParse is P6.2, line by line.
func meantParse(text string) (api.Arena, api.Errno, int) {
	if len(text) > 65536 {
		return api.Arena{}, 2, 0
	}
	lines := strings.Split(text, "\n")
	ended := len(lines) - 1
	if lines[ended] == "" && ended > 0 {
		lines = lines[:ended]
	}
	for i, line := range lines {
		bad := i >= ended || i >= 24
		if i == 0 {
			bad = bad || len(line) < 3 || len(line) > 32
		} else {
			bad = bad || len(line) != len(lines[0])
		}
		for _, sign := range []byte(line) {
			bad = bad || strings.IndexByte(signs, sign) < 0
		}
		if bad {
			return api.Arena{}, 60, i + 1
		}
	}
	a := rowsOf(lines...)
	if errno := meantCheck(a); errno != 0 {
		return api.Arena{}, errno, 0
	}
	return a, 0, 0
}

func checkParse(t *testing.T, text string) {
	t.Helper()
	want, wantErrno, wantLine := meantParse(text)
	got, errno, line := arena.Parse(text)
	if got != want || errno != wantErrno || line != wantLine {
		t.Fatalf("Parse(%q): %v, %d, %d, want %v, %d, %d", text, got, errno, line, want, wantErrno, wantLine)
	}
	if errno != api.OK {
		return
	}
	if again, errno := arena.Print(got); again != text || errno != api.OK {
		t.Fatalf("Print of Parse(%q): %q, %d", text, again, errno)
	}
}

// lines is a text of so many lines, each with a line feed.
func lines(n int, line string) string { return strings.Repeat(line+"\n", n) }

func TestP6_2Parse(t *testing.T) {
	long := strings.Repeat("#", 65536)
	most := meantPrint(sized(5, 24))
	for _, c := range []struct {
		name, text string
		errno      api.Errno
		line       int
	}{
		{"a map", "####\n#12#\n####\n", 0, 0}, {"the greatest map", meantPrint(sized(32, 24)), 0, 0},
		{"nothing", "", 60, 1}, {"a line feed", "\n", 60, 1}, {"two line feeds", "\n\n", 60, 1}, {"no line feed", "####", 60, 1},
		{"65536 bytes in one line", long, 60, 1}, {"65537 bytes", long + "#", 2, 0}, {"65536 bytes in lines", lines(16384, "###"), 60, 25}, {"65537 bytes in lines", lines(16384, "###") + "\n", 2, 0}, {"65537 bytes, the first one wrong", "x" + long, 2, 0}, {"65536 bytes, the last one a line feed", long[1:] + "\n", 60, 1},
		{"no line feed at the end", "####\n#12#\n####", 60, 3}, {"no line feed behind a piece", "####\n#12#\n####\n#", 60, 4}, {"an empty line at the end", "####\n#12#\n####\n\n", 60, 4}, {"an empty line between", "####\n\n#12#\n####\n", 60, 2}, {"an empty line ahead", "\n####\n#12#\n####\n", 60, 1},
		{"2 signs", "##\n##\n##\n", 60, 1}, {"3 signs", "###\n#1#\n#2#\n###\n", 0, 0}, {"32 signs", meantPrint(sized(32, 3)), 0, 0}, {"33 signs", meantPrint(sized(33, 3)), 60, 1}, {"0 signs", "\n###\n", 60, 1},
		{"a shorter line", "####\n#12\n####\n", 60, 2}, {"a longer line", "####\n#12##\n####\n", 60, 2}, {"a shorter last line", "####\n#12#\n###\n", 60, 3},
		{"24 lines", most, 0, 0}, {"25 lines", meantPrint(sized(5, 25)), 60, 25}, {"24 lines and an empty one", most + "\n", 60, 25}, {"24 lines and a piece", most + "#", 60, 25}, {"26 lines", meantPrint(sized(5, 26)), 60, 25}, {"24 lines, the last without a line feed", most[:len(most)-1], 60, 24},
		{"a sign that is none", "###\n#x#\n", 60, 2}, {"a sign that is none in the first line", "#x#\n###\n", 60, 1}, {"a 7", "#####\n#127#\n#####\n", 60, 2}, {"a 0", "#####\n#120#\n#####\n", 60, 2}, {"a carriage return", "####\r\n#12#\r\n####\r\n", 60, 1}, {"a carriage return in a line of that length", "#####\n#12#\r\n#####\n", 60, 2}, {"a byte 0", "####\n#12\x00\n####\n", 60, 2}, {"a rune of two bytes", "####\n#1é\n####\n", 60, 2}, {"bytes that are no rune", "####\n#1\xff\xfe\n####\n", 60, 2}, {"a space behind", "#### \n#12# \n#### \n", 60, 1},
		{"the second and the third at fault", "####\n#1x#\n###\n", 60, 2}, {"the third and the fourth at fault", "####\n#12#\n#####\n#x##", 60, 3}, {"the first at fault, too long, and all others", "#################################\n#x\n\n#", 60, 1}, {"the 25th and an earlier one at fault", lines(23, "####") + "#x##\n" + "####\n", 60, 24}, {"a line at fault, and the map", "...\n...\n..", 60, 3},
		{"one row", "###\n", 61, 0}, {"two rows", "####\n#12#\n", 61, 0}, {"a hole", "####\n#12.\n####\n", 61, 0}, {"17 spots", meantPrint(walled(spotsInRow(17))), 61, 0},
		{"no start", "###\n###\n###\n", 62, 0}, {"a gap", "#####\n#13.#\n#####\n", 62, 0}, {"walled off", "#####\n#1#2#\n#####\n", 62, 0}, {"twice", "#####\n#122#\n#####\n", 62, 0},
	} {
		if _, errno, line := arena.Parse(c.text); errno != c.errno || line != c.line {
			t.Errorf("%s: %d, %d, want %d, %d", c.name, errno, line, c.errno, c.line)
		}
		checkParse(t, c.text)
	}
}

// TestP6_2ParseChanged takes a text of a map, and changes one byte, takes one out, or lays one in.
func TestP6_2ParseChanged(t *testing.T) {
	text := "######\n#1..2#\n#.*#.#\n#3...#\n######\n"
	for at := 0; at <= len(text); at++ {
		checkParse(t, text[:at])
		checkParse(t, text[at:])
		for sign := range 256 {
			checkParse(t, text[:at]+string([]byte{byte(sign)})+text[at:])
			if at < len(text) {
				checkParse(t, text[:at]+string([]byte{byte(sign)})+text[at+1:])
			}
		}
		if at < len(text) {
			checkParse(t, text[:at]+text[at+1:])
		}
	}
}

func TestP6_2ParseLines(t *testing.T) {
	for n := range 28 {
		for width := range 36 {
			checkParse(t, lines(n, strings.Repeat("#", width)))
			checkParse(t, lines(n, strings.Repeat("#", width))+"##")
			if n > 0 && width > 0 {
				checkParse(t, meantPrint(sized(width, n)))
			}
		}
	}
}

func TestP6_2ParseSome(t *testing.T) {
	rnd := rand.New(rand.NewSource(62))
	for range 20000 {
		text := []byte(meantPrint(someMap(rnd)))
		for range rnd.Intn(4) {
			at := rnd.Intn(len(text))
			text[at] = "#.12*x\n"[rnd.Intn(7)]
		}
		checkParse(t, string(text))
	}
	for range 20000 {
		text := make([]byte, rnd.Intn(40))
		for at := range text {
			text[at] = "###..12*\n\n"[rnd.Intn(10)]
		}
		checkParse(t, string(text))
	}
}

func TestP6_2Print(t *testing.T) {
	if text, errno := arena.Print(walled("12")); text != "####\n#12#\n####\n" || errno != api.OK {
		t.Errorf("Print: %q, %d", text, errno)
	}
	for _, c := range []struct {
		a    api.Arena
		want api.Errno
	}{{api.Arena{}, 61}, {walled("1"), 62}, {rowsOf("####", "####"), 61}, {walled("1#2"), 62}, {walled("12x"), 61}, {api.Arena{Cols: 4, Rows: 3, Signs: "#####12####"}, 61}, {api.Arena{Cols: 4, Rows: 3, Signs: "#####12######"}, 61}} {
		if text, errno := arena.Print(c.a); text != "" || errno != c.want {
			t.Errorf("Print(%v): %q, %d, want %d", c.a, text, errno, c.want)
		}
	}
}

func TestP6_8ParseAndPrint(t *testing.T) {
	for _, a := range goodMaps(68, 500) {
		text, errno := arena.Print(a)
		if errno != api.OK {
			t.Fatalf("Print(%v): %d", a, errno)
		}
		again, errno, line := arena.Parse(text)
		if again != a || errno != api.OK || line != 0 {
			t.Fatalf("Parse(%q): %v, %d, %d", text, again, errno, line)
		}
		if twice, errno := arena.Print(again); twice != text || errno != api.OK {
			t.Fatalf("Print(%v): %q, %d", again, twice, errno)
		}
	}
}
