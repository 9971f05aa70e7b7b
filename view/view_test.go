package view_test

import (
	"math"
	"slices"
	"strings"
	"testing"

	"echelon/api"
	"echelon/arena"
	"echelon/ladder"
	"echelon/view"
	"echelon/world"
)

const (
	mostFrame = 1099511627776
	mostNo    = 1099511627776
	bound     = 2147483647
)

// ints are numbers at which a reading may go wrong: about 0, the seats and the kinds, at half a word, at the ends of their type.
var ints = []int{math.MinInt, math.MinInt + 1, -1 << 32, -1<<32 + 1, -7, -6, -2, -1, 0, 1, 2, 3, 4, 5, 6, 7, 8, 9, 10, 42, 255, 256, 1<<31 - 1, 1 << 31, 1 << 32, 1<<32 + 1, 1<<32 + 5, math.MaxInt - 1, math.MaxInt}

func at(x, y int) api.Point { return api.Point{X: x, Y: y} }

// session is one on a standard map.
func session(peers, standard int, lags ...int) api.Config {
	a, _ := arena.Standard(standard)
	return api.Config{Peers: peers, Seed: 7, Arena: a, Lags: lags}
}

// two is the session of the document's examples, six one with as many seats as there may be.
func two() api.Config { return session(2, 3, 0, 2) }

func six() api.Config { return session(6, 1, 0, 1, 5, 12, 47) }

// begun is the world that New answers.
func begun(t *testing.T, c api.Config) api.World {
	t.Helper()
	w, e := world.New(c)
	if e != api.OK {
		t.Fatalf("New(%+v): %d", c, e)
	}
	return w
}

// own is a world that shares nothing with another one.
func own(w api.World) api.World {
	w.Movers, w.Scores = slices.Clone(w.Movers), slices.Clone(w.Scores)
	w.Shots, w.Pickups = slices.Clone(w.Shots), slices.Clone(w.Pickups)
	return w
}

// flier is a shot that stands in the air.
func flier(no, owner int, p api.Point) api.Shot {
	return api.Shot{No: no, Owner: owner, Power: 1, At: p, Left: 20}
}

// gone is a mover that is out.
func gone(p api.Point, frames int) api.Mover {
	return api.Mover{At: p, Facing: 3, Out: frames, Said: 200}
}

// lines are those of a text, which must have a line feed behind each, and nowhere else.
func lines(t *testing.T, text string) []string {
	t.Helper()
	if text == "" {
		return nil
	}
	if !strings.HasSuffix(text, "\n") {
		t.Fatalf("no line feed at the end: %q", text)
	}
	all := strings.Split(strings.TrimSuffix(text, "\n"), "\n")
	for _, line := range all {
		if line == "" || strings.TrimSpace(line) != line || strings.ContainsAny(line, "\r\t\x00") || strings.Contains(line, "  ") {
			t.Fatalf("line %q of %q", line, text)
		}
	}
	return all
}

// tells holds a text and an error to be these lines, without an error.
func tells(t *testing.T, what string, text string, e api.Errno, want ...string) {
	t.Helper()
	meant := ""
	for _, line := range want {
		meant += line + "\n"
	}
	if text != meant || e != api.OK {
		t.Errorf("%s: %q %d, meant %q", what, text, e, meant)
	}
}

// refused holds a text and an error to be those of a refusal.
func refused(t *testing.T, what string, text string, e api.Errno) {
	t.Helper()
	if text != "" || e != 230 {
		t.Errorf("%s: %q %d, meant the empty text and 230", what, text, e)
	}
}

func TestP23_1Examples(t *testing.T) {
	c := session(2, 3, 0, 1)
	fire := api.Command{Frame: 1, Peer: 0, Seq: 1, Order: api.Order{Verb: api.Fire, A: 3}}
	w, _ := world.Ref(c, 13, []api.Command{fire})
	text, e := view.Show(c, w)
	tells(t, "the sixth example of the whole", text, e,
		"frame 13",
		"########",
		"#A...oB#",
		"#......#",
		"#......#",
		"#......#",
		"########",
		"A at 6144,6144 health 100 energy 33 points 0",
		"B at 26624,6144 health 100 energy 63 points 0",
	)
}

func TestP23_2Examples(t *testing.T) {
	before := api.World{Movers: []api.Mover{{At: at(1, 1)}, {At: at(4, 9)}}, Scores: []api.Score{{}, {Points: 3}}}
	after := own(before)
	after.Movers[1].At = at(4, 4)
	after.Scores[1].Points = 13
	corrects(t, before, after, api.Correction{Peer: 1, Before: at(4, 9), After: at(4, 4), Health: 0, Points: 10})
}

// TestP23_2OfTheWhole: the second example of the whole, by a ladder alone.
func TestP23_2OfTheWhole(t *testing.T) {
	l, e := ladder.New(session(2, 3, 0, 2, 5))
	if e != api.OK {
		t.Fatalf("New: %d", e)
	}
	for range 3 {
		l.Move(0, true)
	}
	l.Put(api.Command{Frame: 2, Peer: 0, Seq: 1, Order: api.Order{Verb: api.Steer, A: 8}})
	m, e := l.Move(0, true)
	if e != api.OK || m.Found != 1 {
		t.Fatalf("Move: %+v %d", m, e)
	}
	corrects(t, m.Wrong, m.Right, api.Correction{Peer: 0, Before: at(6144, 6144), After: at(6880, 6144)})
	if m, e = l.Move(0, true); m.Found != 0 || e != api.OK {
		t.Fatalf("Move: %+v %d", m, e)
	}
	corrects(t, m.Wrong, m.Right)
}

func TestP23_3Examples(t *testing.T) {
	text, e := view.Notes([]api.Note{{Kind: 1, A: 0, B: 7}, {Kind: 5, A: 2, B: 3}, {Kind: 6, A: 3, B: 2}})
	tells(t, "three notes", text, e, "A fired 7", "C took prize", "spot 3 charge")
	for _, n := range []api.Note{{Kind: 9}, {Kind: 2, A: 0, B: 6}, {Kind: 5, A: 0, B: 4}} {
		text, e = view.Notes([]api.Note{n})
		refused(t, "a note", text, e)
	}
}

func TestP23_4Examples(t *testing.T) {
	text, e := view.Table([]api.Score{{}, {}})
	tells(t, "of two", text, e, "1 A points 0 hits 0 outs 0 streak 0", "2 B points 0 hits 0 outs 0 streak 0")
}

func TestP23_5Examples(t *testing.T) {
	prints(t, api.Counters{}, "ticks 0 stalls 0 steps 0 copies 0 late 0 sent 0 got 0 refused 0 accepted 0")
	prints(t, api.Counters{Ticks: 4, Steps: 7, Copies: 1, Late: 1, Sent: 5, Got: 1}, "ticks 4 stalls 0 steps 7 copies 1 late 1 sent 5 got 1 refused 0 accepted 0")
}
