package view_test

import (
	"math/rand"
	"slices"
	"testing"

	"echelon/api"
	"echelon/view"
)

// roomy is a list with room behind its end, in which something stands.
func roomy[T any](l []T, mark T) []T {
	room := append(slices.Clone(l), mark, mark, mark)
	return room[:len(l)]
}

// whole is a list with the room behind its end.
func whole[T any](l []T) []T { return l[:cap(l)] }

// spacious is a world whose lists all have room behind their ends.
func spacious(w api.World) api.World {
	w.Movers = roomy(w.Movers, api.Mover{Health: -77})
	w.Scores = roomy(w.Scores, api.Score{Points: -77})
	w.Shots = roomy(w.Shots, api.Shot{No: -77})
	w.Pickups = roomy(w.Pickups, api.Pickup{No: -77})
	return w
}

// kept remembers a world, room and all; the answer tells whether it is still so.
func kept(w api.World) func() bool {
	movers, scores := slices.Clone(whole(w.Movers)), slices.Clone(whole(w.Scores))
	shots, pickups := slices.Clone(whole(w.Shots)), slices.Clone(whole(w.Pickups))
	return func() bool {
		return slices.Equal(whole(w.Movers), movers) && slices.Equal(whole(w.Scores), scores) &&
			slices.Equal(whole(w.Shots), shots) && slices.Equal(whole(w.Pickups), pickups)
	}
}

// TestP23_1StaysAsItWas: the session and the world, and the room behind their lists; and a text does not hang on them.
func TestP23_1StaysAsItWas(t *testing.T) {
	r := rand.New(rand.NewSource(2311))
	for range 300 {
		c := someSession(r)
		w := spacious(someWorld(r, c))
		if r.Intn(3) == 0 {
			w.NextNo = 0
		}
		c.Lags = roomy(c.Lags, -77)
		lags, same := slices.Clone(whole(c.Lags)), kept(w)
		first, e1 := view.Show(c, w)
		second, e2 := view.Show(c, w)
		if first != second || e1 != e2 || !same() || !slices.Equal(whole(c.Lags), lags) {
			t.Fatalf("Show: %q %d, %q %d, of %+v %+v", first, e1, second, e2, c, w)
		}
		again := string([]byte(first))
		clear(whole(w.Movers))
		clear(whole(w.Shots))
		clear(whole(c.Lags))
		if first != again {
			t.Fatalf("the text hangs on the world: %q", first)
		}
	}
}

// TestP23_2StaysAsItWas: both worlds, and the room behind their lists.
func TestP23_2StaysAsItWas(t *testing.T) {
	r := rand.New(rand.NewSource(2322))
	for range 2000 {
		n := r.Intn(7)
		before, after := spacious(anyWorld(r, n, n)), spacious(anyWorld(r, n, n-r.Intn(2)*min(n, 1)))
		sameBefore, sameAfter := kept(before), kept(after)
		first, e1 := view.Correct(before, after)
		second, e2 := view.Correct(before, after)
		if !slices.Equal(first, second) || e1 != e2 || !sameBefore() || !sameAfter() {
			t.Fatalf("Correct(%+v, %+v): %v %d, %v %d", before, after, first, e1, second, e2)
		}
	}
}

// TestP23_2NewMemory: who writes into an answer, or appends to it, changes no other answer, and nothing that was handed in; and who writes into a world changes no answer.
func TestP23_2NewMemory(t *testing.T) {
	for n := range 8 {
		before, after := spacious(plain(n)), spacious(sized(n, n))
		for seat := range n {
			after.Movers[seat].At = at(1, 1)
		}
		sameBefore, sameAfter := kept(before), kept(after)
		first, _ := view.Correct(before, after)
		second, _ := view.Correct(before, after)
		want := slices.Clone(second)
		if len(want) != n {
			t.Fatalf("of %d: %v", n, want)
		}
		spoil := func(l []api.Correction) {
			for i := range whole(l) {
				whole(l)[i] = api.Correction{Peer: -9, Health: -9}
			}
			l = append(l, api.Correction{Peer: -8})
			l = append(l, api.Correction{Peer: -8})
			whole(l)[0].Points = -8
		}
		spoil(first)
		third, _ := view.Correct(before, after)
		if !slices.Equal(second, want) || !slices.Equal(third, want) || !sameBefore() || !sameAfter() {
			t.Fatalf("of %d: %v %v, meant %v", n, second, third, want)
		}
		clear(whole(before.Movers))
		clear(whole(after.Movers))
		clear(whole(before.Scores))
		if !slices.Equal(second, want) {
			t.Fatalf("of %d: the answer hangs on the worlds: %v", n, second)
		}
	}
}

// TestP23_2OneWorldTwice: a world handed in on both sides.
func TestP23_2OneWorldTwice(t *testing.T) {
	for n := range 8 {
		w := spacious(plain(n))
		same := kept(w)
		corrects(t, w, w)
		if !same() {
			t.Errorf("of %d: changed: %+v", n, w)
		}
	}
}

func TestP23_3StaysAsItWas(t *testing.T) {
	var good []api.Note
	for _, x := range goodNotes {
		good = append(good, x.note)
	}
	for _, l := range [][]api.Note{good, good[:1], append(slices.Clone(good), badNotes[0]), nil} {
		l = roomy(l, api.Note{Kind: 1, A: 2, B: 3})
		before := slices.Clone(whole(l))
		first, e1 := view.Notes(l)
		second, e2 := view.Notes(l)
		if first != second || e1 != e2 || !slices.Equal(whole(l), before) {
			t.Errorf("Notes(%v): %q %d, %q %d", l, first, e1, second, e2)
		}
		again := string([]byte(first))
		clear(whole(l))
		if first != again {
			t.Errorf("the text hangs on the notes: %q", first)
		}
	}
}

func TestP23_4StaysAsItWas(t *testing.T) {
	for _, l := range [][]api.Score{{{Points: 1}, {Points: 3}, {Points: 2}}, {{Points: -1}, {Hits: -1}}, {{}}, nil} {
		l = roomy(l, api.Score{Points: 99, Hits: -1})
		before := slices.Clone(whole(l))
		first, e1 := view.Table(l)
		second, e2 := view.Table(l)
		if first != second || e1 != e2 || !slices.Equal(whole(l), before) {
			t.Errorf("Table(%v): %q %d, %q %d", l, first, e1, second, e2)
		}
		again := string([]byte(first))
		clear(whole(l))
		if first != again {
			t.Errorf("the text hangs on the scores: %q", first)
		}
	}
}
