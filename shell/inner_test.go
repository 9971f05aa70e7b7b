package shell

import (
	"errors"
	"strings"
	"testing"
)

// TestP25_1Why: what keeps a line from being one stands in the error that has its number.
func TestP25_1Why(t *testing.T) {
	for _, x := range []struct {
		text string
		why  error
		told string
	}{
		{"game 3 7 0 2\n\ntock 0", errKind, "line 3: no line begins so"},
		{" game 3 7 0 2", errKind, "line 1: no line begins so"},
		{"#\ntick 0", errBegun, "line 2: no game is begun"},
		{"game 3 7 0 2\ntick 0 0", errWords, "line 2: too many words, or too few"},
		{"game 3", errWords, "line 1: too many words, or too few"},
		{"game 3 7 0 2\norder 0", errWords, "line 2: too many words, or too few"},
		{"game 3 7 0 2\ntick 00", errNumber, "line 2: no number, or not written as one is told"},
		{"game 3 -1 0 2", errNumber, "line 1: no number, or not written as one is told"},
		{"game 3 7 x y 0 2", errNumber, "line 1: no number, or not written as one is told"},
		{"game 3 7 0 y", errNumber, "line 1: no number, or not written as one is told"},
		{"game 4 7 0 2", errSession, "line 1: a session that may not be"},
		{"game 3 7 0", errSession, "line 1: a session that may not be"},
		{"game 3 7 0 2\norder 0 1 jump", errOrder, "line 2: no order"},
	} {
		script, why := read(x.text)
		var bad badLine
		if script != nil || !errors.Is(why, x.why) || !errors.As(why, &bad) || why.Error() != x.told || bad.no != strings.Count(x.text, "\n")+1 {
			t.Errorf("%q: %v, meant %q", x.text, why, x.told)
		}
	}
	for _, text := range []string{strings.Repeat("#", 65537), strings.Repeat("\n", 2000)} {
		script, why := read(text)
		var bad badLine
		if script != nil || why != errLong || errors.As(why, &bad) {
			t.Errorf("%d bytes: %v", len(text), why)
		}
	}
}
