package world_test

import (
	"math"
	"math/rand"
	"slices"
	"testing"

	"echelon/api"
	"echelon/world"
)

// order is a command of the frame 1.
func order(peer, seq, verb, a, b int) api.Command {
	return api.Command{Frame: 1, Peer: peer, Seq: seq, Order: api.Order{Verb: verb, A: a, B: b}}
}

// of are commands as those of another frame.
func of(frame int64, commands ...api.Command) []api.Command {
	l := slices.Clone(commands)
	for i := range l {
		l[i].Frame = frame
	}
	return l
}

func note(kind, a, b int) api.Note { return api.Note{Kind: kind, A: a, B: b} }

// rested is a world behind a frame in which nothing happens but that those in play, who neither cool nor shield, rest.
func rested(w api.World) api.World {
	w = own(w)
	w.Frame++
	for seat := range w.Movers {
		if w.Movers[seat].Out == 0 {
			w.Movers[seat].Energy = min(100, w.Movers[seat].Energy+1)
		}
	}
	return w
}

// wantStep asks for a world and notes without an error.
func wantStep(t *testing.T, name string, c api.Config, w api.World, commands []api.Command, want api.World, notes ...api.Note) {
	t.Helper()
	got, told, e := world.Step(c, w, commands)
	if !same(got, want) || !slices.Equal(told, notes) || e != 0 {
		t.Errorf("%s: Step(%+v, %+v): %+v %v %d, not %+v %v", name, w, commands, got, told, e, want, notes)
	}
}

// wantNoStep asks for an error.
func wantNoStep(t *testing.T, name string, c api.Config, w api.World, commands []api.Command, want api.Errno) {
	t.Helper()
	if got, notes, e := world.Step(c, w, commands); !same(got, api.World{}) || len(notes) > 0 || e != want {
		t.Errorf("%s: Step(%+v, %+v): %+v %v %d, not %d", name, w, commands, got, notes, e, want)
	}
}

func TestP13_3Examples(t *testing.T) {
	c := two()
	w := begun(t, c)
	say := []api.Command{order(1, 1, api.Say, 9, 0)}
	want := rested(w)
	want.Movers[1].Said = 9
	wantStep(t, "say", c, w, say, want, note(8, 1, 9))
	wantNoStep(t, "say again", c, want, say, 132)

	want = rested(w)
	want.Movers[0].Energy, want.Movers[0].Cool = 41, 3
	want.Shots = []api.Shot{{No: 1, Owner: 0, Power: 1, At: at(9472, 6144), Speed: at(1536, 0), Left: 39}}
	want.NextNo = 2
	wantStep(t, "fire", c, w, []api.Command{order(0, 1, api.Fire, 1, 0)}, want, note(1, 0, 1))
}

func TestP13_3Nothing(t *testing.T) {
	for peers := 2; peers <= 6; peers++ {
		c := session(peers, 1, 0, 2)
		w := begun(t, c)
		wantStep(t, "nothing", c, w, nil, rested(w))
		wantStep(t, "an empty list", c, w, []api.Command{}, rested(w))
	}
}

func TestP13_3SpoiltWorld(t *testing.T) {
	for _, c := range []api.Config{two(), six()} {
		for _, s := range slices.Concat(frameStates(), nextStates(), moverStates(), shotStates(), pickupStates()) {
			if s.may {
				continue
			}
			w := busy(t, c)
			s.do(&w)
			wantNoStep(t, s.name, c, w, nil, 131)
			wantNoStep(t, s.name+", and a wrong command", c, w, []api.Command{{}}, 131)
			wantNoStep(t, s.name+", and a wrong session", session(7, 1, 0, 2), w, nil, 130)
		}
	}
}

func TestP13_3SpoiltSession(t *testing.T) {
	w := busy(t, two())
	last := own(w)
	last.Frame = mostFrame
	for _, c := range spoiltSessions() {
		wantNoStep(t, "a world that may be", c, w, nil, 130)
		wantNoStep(t, "a wrong command", c, w, []api.Command{{}}, 130)
		wantNoStep(t, "the last frame", c, last, nil, 130)
		wantNoStep(t, "nothing", c, api.World{}, nil, 130)
	}
}

func TestP13_3End(t *testing.T) {
	c := two()
	w := begun(t, c)
	w.Frame = mostFrame - 1
	want := rested(w)
	p := spawned(t, c, mostFrame, nil, 1)
	want.Pickups, want.NextNo = []api.Pickup{p}, 2
	wantStep(t, "the last frame", c, w, nil, want, note(6, p.Spot, p.Kind))
	w.Frame = mostFrame
	wantNoStep(t, "behind the last frame", c, w, nil, 133)
	wantNoStep(t, "behind it, with a command", c, w, of(mostFrame+1, order(0, 1, api.Halt, 0, 0)), 133)
	wantNoStep(t, "behind it, with a wrong command", c, w, []api.Command{{}}, 133)
	w.Frame = mostFrame + 1
	wantNoStep(t, "beyond it", c, w, nil, 131)
	w.Frame, w.NextNo = mostFrame, 0
	wantNoStep(t, "behind it, and wrong", c, w, nil, 131)
}

// spoiltCommands are commands of the frame 1, none of which may be one of a session of so many peers.
func spoiltCommands(peers int) []api.Command {
	var l []api.Command
	for _, peer := range []int{math.MinInt, -1, peers, peers + 1, math.MaxInt} {
		l = append(l, order(peer, 1, api.Halt, 0, 0))
	}
	for _, seq := range []int{math.MinInt, -1, 0} {
		l = append(l, order(0, seq, api.Halt, 0, 0))
	}
	for _, x := range []api.Order{{}, {Verb: 8}, {Verb: -1}, {Verb: 1, A: 9}, {Verb: 1, B: -9}, {Verb: 2, A: 1}, {Verb: 3, A: 16}, {Verb: 4}, {Verb: 4, A: 4}, {Verb: 5, A: 2}, {Verb: 6, A: -1}, {Verb: 7, A: 256}, {Verb: 7, C: 1}, {Verb: math.MaxInt}, {Verb: 1, A: math.MinInt}} {
		l = append(l, api.Command{Frame: 1, Peer: 1, Seq: 1, Order: x})
	}
	return l
}

func TestP13_3SpoiltCommands(t *testing.T) {
	for peers := 2; peers <= 6; peers++ {
		c := session(peers, 1, 0, 2)
		w := begun(t, c)
		good := []api.Command{order(0, 4, api.Halt, 0, 0), order(1, 2, api.Halt, 0, 0)}
		for _, bad := range spoiltCommands(peers) {
			wantNoStep(t, "alone", c, w, []api.Command{bad}, 132)
			wantNoStep(t, "ahead", c, w, []api.Command{bad, good[0], good[1]}, 132)
			wantNoStep(t, "behind", c, w, []api.Command{good[0], good[1], bad}, 132)
		}
		for _, peer := range []int{0, peers - 1} {
			wantStep(t, "a peer of the session", c, w, []api.Command{order(peer, 1, api.Halt, 0, 0)}, rested(w))
		}
	}
}

func TestP13_3CommandFrames(t *testing.T) {
	c := two()
	for _, frame := range []int64{0, 1, 17, mostFrame - 2} {
		w := begun(t, c)
		w.Frame = frame
		for _, other := range []int64{math.MinInt64, -1, 0, frame - 1, frame, frame + 2, math.MaxInt64} {
			if other != frame+1 {
				wantNoStep(t, "another frame", c, w, of(other, order(0, 1, api.Halt, 0, 0)), 132)
				wantNoStep(t, "another frame behind", c, w, append(of(frame+1, order(0, 1, api.Halt, 0, 0)), of(other, order(0, 2, api.Halt, 0, 0))...), 132)
				wantNoStep(t, "another frame ahead", c, w, append(of(other, order(0, 1, api.Halt, 0, 0)), of(frame+1, order(0, 2, api.Halt, 0, 0))...), 132)
			}
		}
		wantStep(t, "the frame", c, w, of(frame+1, order(0, 1, api.Halt, 0, 0)), rested(w))
	}
}

func TestP13_3CommandsRise(t *testing.T) {
	c := session(3, 2, 0, 2)
	w := begun(t, c)
	type turn struct{ peer, seq int }
	for _, x := range []struct {
		may   bool
		turns []turn
	}{
		{true, []turn{{0, 1}, {0, 2}, {1, 1}, {2, 1}}}, {true, []turn{{0, 9}, {1, 5}, {2, 1}}}, {true, []turn{{0, 7}, {0, 100}, {2, 3}, {2, math.MaxInt}}}, {true, []turn{{2, math.MaxInt}}},
		{true, []turn{{0, 1}, {0, 2}, {0, 3}, {0, 4}, {0, 5}, {0, 6}, {0, 7}}},
		{false, []turn{{0, 1}, {0, 1}}}, {false, []turn{{1, 3}, {1, 3}}}, {false, []turn{{0, 2}, {0, 1}}}, {false, []turn{{1, 1}, {0, 2}}}, {false, []turn{{1, 1}, {0, 1}}}, {false, []turn{{0, 1}, {1, 1}, {0, 2}}},
		{false, []turn{{0, 1}, {1, 1}, {1, 2}, {1, 2}, {2, 1}}}, {false, []turn{{0, 1}, {2, 1}, {1, 1}}}, {false, []turn{{2, 1}, {1, 2}, {0, 3}}}, {false, []turn{{0, 1}, {1, 1}, {0, 1}}}, {false, []turn{{0, math.MaxInt}, {0, 1}}},
	} {
		var commands []api.Command
		for _, u := range x.turns {
			commands = append(commands, order(u.peer, u.seq, api.Halt, 0, 0))
		}
		if x.may {
			wantStep(t, "they rise", c, w, commands, rested(w))
		} else {
			wantNoStep(t, "they don't rise", c, w, commands, 132)
		}
	}
}

// TestP13_3AnyOrder: of all orders of some commands one alone may be.
func TestP13_3AnyOrder(t *testing.T) {
	c := session(3, 2, 0, 2)
	w := begun(t, c)
	right := []api.Command{order(0, 3, api.Say, 1, 0), order(0, 4, api.Say, 2, 0), order(1, 1, api.Say, 3, 0), order(2, 1, api.Say, 4, 0), order(2, 9, api.Say, 5, 0)}
	r := rand.New(rand.NewSource(135))
	for range 500 {
		l := slices.Clone(right)
		r.Shuffle(len(l), func(i, j int) { l[i], l[j] = l[j], l[i] })
		if !slices.Equal(l, right) {
			wantNoStep(t, "another order", c, w, l, 132)
		}
	}
	want := rested(w)
	want.Movers[0].Said, want.Movers[1].Said, want.Movers[2].Said = 2, 3, 5
	wantStep(t, "the order", c, w, right, want, note(8, 0, 1), note(8, 0, 2), note(8, 1, 3), note(8, 2, 4), note(8, 2, 5))
}

// TestP13_3AllNotes: a frame that brings each kind of note, in the order of the phases.
func TestP13_3AllNotes(t *testing.T) {
	c := six()
	w := begun(t, c)
	w.Frame = 15
	w.Movers[0].At = at(34816, 10240) // the first spot
	w.Movers[2].At, w.Movers[2].Speed = at(12288, 22528), at(80, 0)
	w.Movers[3].At = at(14848, 22528)
	w.Movers[4].Health = 15
	w.Movers[5] = api.Mover{At: at(5000, 9000), Facing: 3, Said: 5, Out: 1}
	w.Shots = []api.Shot{{No: 2, Owner: 1, Power: 1, At: at(75776-2000, 30720), Speed: at(1536, 0), Left: 9}}
	w.Pickups = []api.Pickup{{No: 1, Spot: 0, Kind: api.Charge}}
	w.NextNo = 3

	want := rested(w)
	want.Movers[0].Energy, want.Movers[0].Said = 91, 77
	want.Movers[1].Energy, want.Movers[1].Cool = 31, 7
	want.Movers[2].At, want.Movers[2].Speed = at(12358, 22528), at(0, 0)
	want.Movers[3].Speed = at(70, 0)
	want.Movers[4] = api.Mover{At: at(75776, 30720), Facing: 0, Out: 29}
	want.Movers[5] = api.Mover{At: at(43008, 30720), Facing: 3, Said: 5, Health: 100, Energy: 50}
	want.Scores[1] = api.Score{Points: 11, Hits: 1, Streak: 1}
	want.Scores[4] = api.Score{Points: -2, Outs: 1}
	want.Shots = []api.Shot{{No: 3, Owner: 1, Power: 2, At: at(75776, 6144+1792+1280), Speed: at(0, 1280), Left: 39}}
	p := spawned(t, c, 16, nil, 4)
	want.Pickups = []api.Pickup{p}
	want.NextNo = 5
	commands := of(16, order(0, 1, api.Say, 77, 0), order(1, 1, api.Fire, 2, 0))
	wantStep(t, "all", c, w, commands, want,
		note(8, 0, 77), note(1, 1, 3), note(7, 2, 3), note(2, 4, 1), note(3, 4, 1), note(5, 0, 2), note(6, p.Spot, p.Kind), note(4, 5, 0))
}
