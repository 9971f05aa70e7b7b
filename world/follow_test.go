package world_test

import (
	"math/rand"
	"slices"
	"testing"

	"echelon/api"
	"echelon/arena"
	"echelon/world"
)

// someSteps runs frames of worlds in which much happens, and of games that go on from them, and tells of each.
func someSteps(t *testing.T, seed int64, tell func(c api.Config, w, next api.World, commands []api.Command, notes []api.Note)) {
	t.Helper()
	r := rand.New(rand.NewSource(seed))
	for range 2500 {
		c := someSession(r)
		w := someWorld(r, c)
		if r.Intn(10) == 0 {
			w = begun(t, c)
		}
		for range 4 {
			if w.Frame == mostFrame {
				break
			}
			commands := someCommands(r, c, w.Frame+1)
			next, notes, e := world.Step(c, w, commands)
			if e != 0 {
				t.Fatalf("Step(%+v, %+v, %v): %d", c, w, commands, e)
			}
			tell(c, w, next, commands, notes)
			w = next
		}
	}
}

// TestP13_5MayBe: what New and Step answer may be one of the session.
func TestP13_5MayBe(t *testing.T) {
	for standard := range 4 {
		for peers := 2; peers <= []int{4, 6, 6, 4}[standard]; peers++ {
			c := session(peers, standard, 0, 47)
			if e := world.Check(c, begun(t, c)); e != 0 {
				t.Errorf("map %d, %d peers: %d", standard, peers, e)
			}
		}
	}
	someSteps(t, 140, func(c api.Config, w, next api.World, commands []api.Command, notes []api.Note) {
		if e := world.Check(c, next); e != 0 || !meantWorld(c, next) || next.Frame != w.Frame+1 {
			t.Fatalf("Step(%+v, %+v, %v): %+v may not be", c, w, commands, next)
		}
	})
}

// TestP13_5TheSame: the same world and commands lead to the same world, however often, whatever was asked in between.
func TestP13_5TheSame(t *testing.T) {
	type asked struct {
		c        api.Config
		w, next  api.World
		commands []api.Command
		notes    []api.Note
	}
	var all []asked
	someSteps(t, 141, func(c api.Config, w, next api.World, commands []api.Command, notes []api.Note) {
		all = append(all, asked{c, own(w), own(next), slices.Clone(commands), slices.Clone(notes)})
	})
	slices.Reverse(all)
	for _, x := range all {
		if next, notes, e := world.Step(x.c, x.w, x.commands); !same(next, x.next) || !slices.Equal(notes, x.notes) || e != 0 {
			t.Fatalf("Step(%+v, %+v, %v): %+v %v %d, not %+v %v", x.c, x.w, x.commands, next, notes, e, x.next, x.notes)
		}
	}
}

// TestP13_5Lags: the lags matter to no frame.
func TestP13_5Lags(t *testing.T) {
	someSteps(t, 142, func(c api.Config, w, next api.World, commands []api.Command, notes []api.Note) {
		c.Lags = []int{0, 1, 2, 3, 47}
		if other, told, e := world.Step(c, w, commands); !same(other, next) || !slices.Equal(told, notes) || e != 0 {
			t.Fatalf("%+v: %+v %d, not %+v", w, other, e, next)
		}
	})
}

// TestP13_5RefAndStep: Ref of a frame, and Step with the next one's commands, is Ref of the next one.
func TestP13_5RefAndStep(t *testing.T) {
	r := rand.New(rand.NewSource(143))
	for range 25 {
		c := someSession(r)
		commands := someLaid(r, c, 60)
		w, e := world.Ref(c, 0, commands)
		if e != 0 || !same(w, begun(t, c)) {
			t.Fatalf("%+v %d", w, e)
		}
		for f := int64(1); f <= 60; f++ {
			var now []api.Command
			for peer := range c.Peers {
				for seq := range 60 {
					for _, x := range commands {
						if x.Frame == f && x.Peer == peer && x.Seq == seq {
							now = append(now, x)
						}
					}
				}
			}
			next, _, e1 := world.Step(c, w, now)
			ref, e2 := world.Ref(c, f, commands)
			if !same(next, ref) || e1 != 0 || e2 != 0 {
				t.Fatalf("frame %d: %+v %d, not %+v %d", f, next, e1, ref, e2)
			}
			w = next
		}
	}
}

// TestP13_6ShotsMoveOnce: in a frame each shot moves once at most.
func TestP13_6ShotsMoveOnce(t *testing.T) {
	someSteps(t, 144, func(c api.Config, w, next api.World, commands []api.Command, notes []api.Note) {
		for _, s := range next.Shots {
			place := slices.IndexFunc(w.Shots, func(x api.Shot) bool { return x.No == s.No })
			if place < 0 {
				if s.No < w.NextNo || s.Left != 39 {
					t.Fatalf("%+v is new", s)
				}
				continue
			}
			before := w.Shots[place]
			p, stopped := arena.Ray(c.Arena, before.At, before.Speed)
			before.At, before.Left = p, before.Left-1
			if s != before || stopped {
				t.Fatalf("%+v has come to %+v", w.Shots[place], s)
			}
		}
	})
}

// TestP13_6NoNumberTwice: what is new in a frame has a number of its own, which nothing has had.
func TestP13_6NoNumberTwice(t *testing.T) {
	someSteps(t, 145, func(c api.Config, w, next api.World, commands []api.Command, notes []api.Note) {
		want := w.NextNo
		for _, n := range notes {
			if n.Kind == api.NoteFired {
				if n.B != want {
					t.Fatalf("the shot %d is fired, not %d", n.B, want)
				}
				want++
			}
			if n.Kind == api.NoteSpawn {
				last := next.Pickups[len(next.Pickups)-1]
				if last.No != want || last.Spot != n.A || last.Kind != n.B {
					t.Fatalf("%+v comes, not %d", last, want)
				}
				want++
			}
		}
		if next.NextNo != want {
			t.Fatalf("%d is the next number, not %d", next.NextNo, want)
		}
		for _, p := range next.Pickups {
			if p.No < w.NextNo && !slices.Contains(w.Pickups, p) {
				t.Fatalf("%+v was not there", p)
			}
		}
	})
}

// TestP13_6Health: a mover loses health only by hits.
func TestP13_6Health(t *testing.T) {
	lost := 0
	someSteps(t, 146, func(c api.Config, w, next api.World, commands []api.Command, notes []api.Note) {
		for seat := range c.Peers {
			hits := 0
			for _, n := range notes {
				if n.Kind == api.NoteHit && n.A == seat {
					hits++
				}
			}
			if next.Movers[seat].Health < w.Movers[seat].Health {
				lost++
				if hits == 0 {
					t.Fatalf("%+v has come to %+v: %v", w.Movers[seat], next.Movers[seat], notes)
				}
			}
		}
	})
	if lost < 1000 {
		t.Errorf("only %d have lost health", lost)
	}
}

// TestP13_6Points: points come by hits and prizes alone.
func TestP13_6Points(t *testing.T) {
	moved := 0
	someSteps(t, 147, func(c api.Config, w, next api.World, commands []api.Command, notes []api.Note) {
		for seat := range c.Peers {
			may := false
			for _, n := range notes {
				may = may || n.Kind == api.NoteHit && n.B == seat || n.Kind == api.NoteOut && n.A == seat || n.Kind == api.NoteTook && n.A == seat && n.B == api.Prize
			}
			if next.Scores[seat] != w.Scores[seat] {
				moved++
				if !may {
					t.Fatalf("%+v has come to %+v: %v", w.Scores[seat], next.Scores[seat], notes)
				}
			}
		}
	})
	if moved < 1000 {
		t.Errorf("only %d scores have changed", moved)
	}
}

// roomy is a list with things behind its end.
func roomy[T any](l []T, behind T) []T {
	n := len(l)
	l = append(slices.Clone(l), behind, behind, behind)
	return l[:n]
}

// spare is a list with what stands in the room behind its end.
func spare[T any](l []T) []T { return slices.Clone(l[:cap(l)]) }

// wipe writes over a list and the room behind its end.
func wipe[T any](l []T) { clear(l[:cap(l)]) }

func wipeWorld(w api.World) {
	wipe(w.Movers)
	wipe(w.Scores)
	wipe(w.Shots)
	wipe(w.Pickups)
}

// TestP13_3StayAsTheyWere: what is handed in is neither changed nor kept, the room behind its end neither; an answer is new memory.
func TestP13_3StayAsTheyWere(t *testing.T) {
	r := rand.New(rand.NewSource(148))
	for range 3000 {
		c := someSession(r)
		w := someWorld(r, c)
		commands := roomy(someCommands(r, c, w.Frame+1), api.Command{Peer: 77})
		c.Lags = roomy(c.Lags, 99)
		w.Movers, w.Scores = roomy(w.Movers, api.Mover{Health: 77}), roomy(w.Scores, api.Score{Hits: 77})
		w.Shots, w.Pickups = roomy(w.Shots, api.Shot{No: 77}), roomy(w.Pickups, api.Pickup{No: 77})
		movers, scores, shots, pickups := spare(w.Movers), spare(w.Scores), spare(w.Shots), spare(w.Pickups)
		orders, lags := spare(commands), spare(c.Lags)

		got, notes, e := world.Step(c, w, commands)
		world.Check(c, w)
		if e != 0 || !slices.Equal(spare(w.Movers), movers) || !slices.Equal(spare(w.Scores), scores) || !slices.Equal(spare(w.Shots), shots) ||
			!slices.Equal(spare(w.Pickups), pickups) || !slices.Equal(spare(commands), orders) || !slices.Equal(spare(c.Lags), lags) {
			t.Fatalf("%+v %v have become others: %d", w, commands, e)
		}
		again, notesAgain, _ := world.Step(c, w, commands)
		want, wantNotes := own(got), slices.Clone(notes)
		wipeWorld(w)
		wipe(commands)
		wipeWorld(again)
		wipe(notesAgain)
		if !same(got, want) || !slices.Equal(notes, wantNotes) {
			t.Fatalf("%+v %v has become %+v %v", want, wantNotes, got, notes)
		}
	}
}

// TestP13_3RefusedStay: what is refused stays as it was.
func TestP13_3RefusedStay(t *testing.T) {
	c := two()
	w := busy(t, c)
	before := own(w)
	commands := append(of(1001, order(0, 2, api.Fire, 1, 0)), of(1001, order(0, 1, api.Fire, 1, 0))...)
	handed := slices.Clone(commands)
	wantNoStep(t, "out of order", c, w, commands, 132)
	if !same(w, before) || !slices.Equal(commands, handed) {
		t.Errorf("%+v %v", w, commands)
	}
}

// TestP13_2NewMemory: two worlds that begin share nothing.
func TestP13_2NewMemory(t *testing.T) {
	c := six()
	w, other := begun(t, c), begun(t, c)
	want := own(w)
	wipeWorld(other)
	if !same(w, want) || !same(begun(t, c), want) {
		t.Errorf("%+v, not %+v", w, want)
	}
}

// TestP13_4StayAsTheyWere: the commands stay in the order in which they are handed in.
func TestP13_4StayAsTheyWere(t *testing.T) {
	r := rand.New(rand.NewSource(149))
	for range 100 {
		c := someSession(r)
		commands := roomy(someLaid(r, c, 30), api.Command{Frame: 3, Seq: 5000, Order: api.Order{Verb: api.Halt}})
		before := spare(commands)
		w, e := world.Ref(c, 30, commands)
		if e != 0 || !slices.Equal(spare(commands), before) {
			t.Fatalf("%v have become %v: %d", before, spare(commands), e)
		}
		again, _ := world.Ref(c, 30, commands)
		want := own(w)
		wipeWorld(again)
		wipe(commands)
		if !same(w, want) {
			t.Fatalf("%+v has become %+v", want, w)
		}
	}
}
