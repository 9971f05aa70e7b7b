package shell_test

import (
	"strings"
	"testing"

	"echelon/shell"
)

// tells holds a text of these lines to tell this.
func tells(t *testing.T, want string, lines ...string) {
	t.Helper()
	if told, e, n := shell.Run(strings.Join(lines, "\n")); told != want || e != 0 || n != 0 {
		t.Errorf("%.200q: %.2000q %d %d, meant %.2000q", lines, told, e, n, want)
	}
}

// taken holds a text of these lines to be one that may be, whatever it tells.
func taken(t *testing.T, lines ...string) []string {
	t.Helper()
	told, e, n := shell.Run(strings.Join(lines, "\n"))
	if e != 0 || n != 0 {
		t.Errorf("%.200q: %d %d", lines, e, n)
	}
	if told != "" && !strings.HasSuffix(told, "\n") {
		t.Errorf("%.200q: no line feed at the end of %.2000q", lines, told)
	}
	return strings.Split(strings.TrimSuffix(told, "\n"), "\n")
}

// refuses holds a text of these lines to be refused for the line of this number, and to tell nothing.
func refuses(t *testing.T, line int, lines ...string) {
	t.Helper()
	if told, e, n := shell.Run(strings.Join(lines, "\n")); told != "" || e != 250 || n != line {
		t.Errorf("%.200q: %.200q %d %d, meant nothing, 250 and %d", lines, told, e, n, line)
	}
}

// tooLong holds a text to be refused for its length.
func tooLong(t *testing.T, text string) {
	t.Helper()
	if told, e, n := shell.Run(text); told != "" || e != 2 || n != 0 {
		t.Errorf("%d bytes, %d line feeds: %.200q %d %d, meant nothing, 2 and 0", len(text), strings.Count(text, "\n"), told, e, n)
	}
}

// begin is the line with which most of the texts begin: two peers, two rungs.
const begin = "game 3 7 0 2"

// lines is one of each line of the table that is not a game.
func lines() []string {
	return []string{
		"order 0 1 say 9", "tick 0", "deliver 1", "drop 1", "double 1", "quiet 1", "flight", "table", "frames 0", "held 0",
		"missed 0 0", "sum 0 0", "links 0", "count 0", "put 0", "show 0 0", "score 0 0",
	}
}
