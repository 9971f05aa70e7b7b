package view_test

import (
	"math/rand"
	"strings"
	"testing"

	"echelon/api"
	"echelon/view"
	"echelon/world"
)

func someOrder(r *rand.Rand) api.Order {
	switch r.Intn(8) {
	case 0, 1:
		return api.Order{Verb: api.Steer, A: r.Intn(17) - 8, B: r.Intn(17) - 8}
	case 2:
		return api.Order{Verb: api.Aim, A: r.Intn(16)}
	case 3:
		return api.Order{Verb: api.Shield, A: r.Intn(2)}
	case 4:
		return api.Order{Verb: api.Dash, A: r.Intn(16)}
	case 5:
		return api.Order{Verb: api.Say, A: r.Intn(256)}
	}
	return api.Order{Verb: api.Fire, A: 1 + r.Intn(3)}
}

// weakened is a world in which each hit puts one out: else that is seldom.
func weakened(w api.World) api.World {
	w = own(w)
	for seat := range w.Movers {
		w.Movers[seat].Health = min(w.Movers[seat].Health, 1)
	}
	return w
}

// TestP23_3Games: all that happens in a game can be shown and told, and what a frame changes is what Correct says of it.
func TestP23_3Games(t *testing.T) {
	r := rand.New(rand.NewSource(2333))
	told := map[string]int{}
	for range 25 {
		c := someSession(r)
		c.Seed = r.Uint64()
		w := begun(t, c)
		for f := int64(1); f <= 400; f++ {
			var commands []api.Command
			for seat := range c.Peers {
				if r.Intn(3) == 0 {
					commands = append(commands, api.Command{Frame: f, Peer: seat, Seq: int(f), Order: someOrder(r)})
				}
			}
			w = weakened(w)
			next, notes, e := world.Step(c, w, commands)
			if e != api.OK {
				t.Fatalf("Step: %d", e)
			}
			game(t, c, w, next, notes)
			text, _ := view.Notes(notes)
			for _, line := range lines(t, text) {
				told[strings.Fields(line)[1]]++
			}
			w = next
		}
	}
	for _, word := range []string{"fired", "hit", "out", "back", "took", "bounces", "says"} {
		if told[word] < 20 {
			t.Errorf("%q was told %d times", word, told[word])
		}
	}
}

// game holds what is told of a frame of a game against what is meant.
func game(t *testing.T, c api.Config, before, after api.World, notes []api.Note) {
	t.Helper()
	if got, e := view.Show(c, after); e != api.OK {
		t.Fatalf("Show(%+v): %d", after, e)
	} else if want, _ := meantShow(c, after); got != want {
		t.Fatalf("Show(%+v): %q, meant %q", after, got, want)
	}
	if got, e := view.Notes(notes); e != api.OK {
		t.Fatalf("Notes(%v): %d", notes, e)
	} else if want, _ := meantNotes(notes); got != want {
		t.Fatalf("Notes(%v): %q, meant %q", notes, got, want)
	}
	if got, e := view.Table(after.Scores); e != api.OK {
		t.Fatalf("Table(%v): %d", after.Scores, e)
	} else if want, _ := meantTable(after.Scores); got != want {
		t.Fatalf("Table(%v): %q, meant %q", after.Scores, got, want)
	}
	want, _ := meantCorrect(before, after)
	corrects(t, before, after, want...)
}
