package world_test

import (
	"math"
	"math/rand"
	"slices"
	"testing"

	"echelon/api"
	"echelon/world"
)

func wantRef(t *testing.T, name string, c api.Config, frame int64, commands []api.Command, want api.World) {
	t.Helper()
	if w, e := world.Ref(c, frame, commands); !same(w, want) || e != 0 {
		t.Errorf("%s: Ref(%d, %v): %+v %d, not %+v", name, frame, commands, w, e, want)
	}
}

func wantNoRef(t *testing.T, name string, c api.Config, frame int64, commands []api.Command, want api.Errno) {
	t.Helper()
	if w, e := world.Ref(c, frame, commands); !same(w, api.World{}) || e != want {
		t.Errorf("%s: Ref(%d, %v): %+v %d, not %d", name, frame, commands, w, e, want)
	}
}

// meantRef is what P13.4 says of commands that may be, word by word.
func meantRef(t *testing.T, c api.Config, frame int64, commands []api.Command) api.World {
	t.Helper()
	w := begun(t, c)
	for f := int64(1); f <= frame; f++ {
		var now []api.Command
		for _, x := range commands {
			if x.Frame == f {
				place := 0
				for place < len(now) && (now[place].Peer < x.Peer || now[place].Peer == x.Peer && now[place].Seq < x.Seq) {
					place++
				}
				now = slices.Insert(now, place, x)
			}
		}
		w, _ = meantStep(c, w, now)
	}
	return w
}

func TestP13_4Frames(t *testing.T) {
	c := two()
	wantRef(t, "the beginning", c, 0, nil, begun(t, c))
	wantRef(t, "the beginning, with commands", c, 0, []api.Command{order(0, 1, api.Fire, 1, 0)}, begun(t, c))
	for _, frame := range []int64{math.MinInt64, -4096, -1, 4097, 4098, mostFrame, math.MaxInt64} {
		wantNoRef(t, "no such frame", c, frame, nil, 1)
		wantNoRef(t, "no such frame, and a wrong command", c, frame, []api.Command{{}}, 1)
	}
	fire := []api.Command{order(0, 1, api.Fire, 1, 0)}
	for _, frame := range []int64{1, 2, 3, 15, 16, 17, 4095, 4096} {
		wantRef(t, "frames", c, frame, fire, meantRef(t, c, frame, fire))
	}
}

func TestP13_4First(t *testing.T) {
	c := two()
	want := rested(begun(t, c))
	want.Movers[1].Said = 9
	say := order(1, 1, api.Say, 9, 0)
	wantRef(t, "frame 1", c, 1, []api.Command{say}, want)
	want = rested(want)
	wantRef(t, "frame 2", c, 2, []api.Command{say}, want)
	wantRef(t, "frame 2, another command behind it", c, 2, append(of(3, order(0, 1, api.Fire, 1, 0)), say), want)
	want.Movers[1].Said = 4
	wantRef(t, "frame 2, with one more", c, 2, []api.Command{of(2, order(1, 2, api.Say, 4, 0))[0], say}, want)
}

// TestP13_4LastFrame: the commands of the last frame run, also of the greatest one.
func TestP13_4LastFrame(t *testing.T) {
	c := two()
	commands := append(of(4096, order(0, 1, api.Say, 200, 0)), of(4097, order(0, 2, api.Say, 100, 0))...)
	w, e := world.Ref(c, 4096, commands)
	if e != 0 || w.Frame != 4096 || w.Movers[0].Said != 200 {
		t.Errorf("%+v %d", w, e)
	}
	w, e = world.Ref(c, 4095, commands)
	if e != 0 || w.Frame != 4095 || w.Movers[0].Said != 0 {
		t.Errorf("%+v %d", w, e)
	}
}

// TestP13_4PassedOver: commands of other frames don't matter, if they may be.
func TestP13_4PassedOver(t *testing.T) {
	c := two()
	want := meantRef(t, c, 20, nil)
	var others []api.Command
	for i, frame := range []int64{math.MinInt64, -1, 0, 21, 22, 4096, 4097, mostFrame + 1, math.MaxInt64} {
		others = append(others, of(frame, order(i%2, i+1, api.Dash, 3, 0))...)
	}
	wantRef(t, "others", c, 20, others, want)
	for _, bad := range spoiltCommands(2) {
		for _, frame := range []int64{math.MinInt64, -1, 0, 1, 20, 21, math.MaxInt64} {
			wantNoRef(t, "one of them may not be", c, 20, append(slices.Clone(others), of(frame, bad)...), 132)
			wantNoRef(t, "one may not be", c, 20, of(frame, bad), 132)
			wantNoRef(t, "one may not be, in no frame", c, 0, of(frame, bad), 132)
		}
	}
}

func TestP13_4Twice(t *testing.T) {
	c := session(3, 2, 0, 2)
	one := order(1, 5, api.Say, 3, 0)
	for _, frame := range []int64{math.MinInt64, -1, 0, 1, 2, 9, 10, math.MaxInt64} {
		for _, other := range []api.Command{one, order(1, 5, api.Halt, 0, 0)} {
			wantNoRef(t, "side by side", c, 9, append(of(frame, other), one), 132)
			between := []api.Command{order(0, 5, api.Halt, 0, 0), order(2, 5, api.Halt, 0, 0), order(1, 4, api.Halt, 0, 0), order(1, 6, api.Halt, 0, 0)}
			wantNoRef(t, "apart", c, 9, append(append([]api.Command{one}, between...), of(frame, other)...), 132)
			wantNoRef(t, "both elsewhere", c, 0, append(of(frame, other), of(frame, one)...), 132)
		}
	}
	want := meantRef(t, c, 1, []api.Command{one})
	wantRef(t, "the same number of others", c, 1, []api.Command{order(2, 5, api.Halt, 0, 0), one, order(0, 5, api.Halt, 0, 0)}, want)
	wantRef(t, "other numbers", c, 1, []api.Command{order(1, 6, api.Halt, 0, 0), one, order(1, math.MaxInt, api.Halt, 0, 0)}, want)
}

func TestP13_4SpoiltSession(t *testing.T) {
	for _, c := range spoiltSessions() {
		for _, frame := range []int64{-1, 0, 1, 4097} {
			wantNoRef(t, "a wrong session", c, frame, nil, 130)
			wantNoRef(t, "a wrong session and command", c, frame, []api.Command{{}}, 130)
		}
	}
}

// TestP13_4InTurn: in a frame commands run by peers, those of one by numbers, whatever order they are handed in.
func TestP13_4InTurn(t *testing.T) {
	c := session(3, 2, 0, 2)
	commands := []api.Command{
		order(0, 2, api.Fire, 1, 0), order(0, 7, api.Aim, 9, 0), order(0, 8, api.Say, 1, 0), order(0, 9, api.Say, 2, 0),
		order(1, 1, api.Aim, 6, 0), order(1, 3, api.Fire, 2, 0), order(2, 1, api.Aim, 0, 0), order(2, 2, api.Fire, 1, 0),
	}
	want, _, e := world.Step(c, begun(t, c), commands)
	if e != 0 || want.Movers[0].Said != 2 || len(want.Shots) != 3 || want.Shots[1].Speed.Y <= 0 {
		t.Fatalf("%+v %d", want, e)
	}
	r := rand.New(rand.NewSource(137))
	for range 300 {
		wantRef(t, "some order", c, 1, commands, want)
		r.Shuffle(len(commands), func(i, j int) { commands[i], commands[j] = commands[j], commands[i] })
	}
}

// TestP13_4NumbersAndFrames: a peer's numbers need not rise from frame to frame.
func TestP13_4NumbersAndFrames(t *testing.T) {
	c := two()
	commands := slices.Concat(of(3, order(0, 1, api.Say, 3, 0)), of(2, order(0, 2, api.Dash, 4, 0)), of(1, order(0, 3, api.Say, 1, 0)), of(2, order(0, 9, api.Say, 2, 0), order(0, 8, api.Say, 8, 0)))
	for frame, said := range []int{0, 1, 2, 3} {
		want := meantRef(t, c, int64(frame), commands)
		wantRef(t, "falling numbers", c, int64(frame), commands, want)
		if want.Movers[0].Said != said {
			t.Errorf("frame %d: %d was said last", frame, want.Movers[0].Said)
		}
	}
}

// someLaid are commands of frames about the first ones, whose numbers are those of a peer, from 1 on.
func someLaid(r *rand.Rand, c api.Config, last int64) []api.Command {
	var l []api.Command
	for peer := range c.Peers {
		for seq := range r.Intn(int(last)) {
			l = append(l, api.Command{Frame: r.Int63n(last+8) - 3, Peer: peer, Seq: seq + 1, Order: someOrder(r)})
		}
	}
	r.Shuffle(len(l), func(i, j int) { l[i], l[j] = l[j], l[i] })
	return l
}

func TestP13_4Some(t *testing.T) {
	r := rand.New(rand.NewSource(138))
	for range 150 {
		c := someSession(r)
		last := 1 + r.Int63n(120)
		commands := someLaid(r, c, last)
		wantRef(t, "some", c, last, commands, meantRef(t, c, last, commands))
	}
}
