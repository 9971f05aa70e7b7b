package ladder_test

import (
	"fmt"
	"math"
	"slices"
	"testing"

	"echelon/api"
	"echelon/arena"
	"echelon/clone"
	"echelon/ladder"
	"echelon/verb"
	"echelon/world"
)

// farInts and farFrames are numbers at which a reckoning may go wrong: at half a word, at the bounds of their type.
var (
	farInts   = []int{math.MinInt, math.MinInt + 1, -1 << 32, -1<<32 + 1, 1 << 31, 1 << 32, 1<<32 + 1, math.MaxInt - 1, math.MaxInt}
	farFrames = []int64{math.MinInt64, math.MinInt64 + 1, math.MinInt64 + 48, -1 << 40, -1 << 32, 1 << 32, 1<<32 + 1, 1 << 40, 1<<40 + 112, 1 << 62, math.MaxInt64 - 48, math.MaxInt64 - 4, math.MaxInt64 - 1, math.MaxInt64}
)

// badOrders are some that verb.Check refuses.
var badOrders = []api.Order{{}, {Verb: -1}, {Verb: 8}, {Verb: api.Steer, A: 9}, {Verb: api.Steer, B: -9}, {Verb: api.Steer, C: 1}, {Verb: api.Halt, A: 1}, {Verb: api.Fire}, {Verb: api.Fire, A: 4}, {Verb: api.Say, A: 256}, {Verb: math.MinInt, A: math.MaxInt}}

// session is one on the standard map that has six starts.
func session(peers int, lags ...int) api.Config {
	a, _ := arena.Standard(1)
	return api.Config{Peers: peers, Seed: 7, Arena: a, Lags: lags}
}

func say(frame int64, peer, seq, what int) api.Command {
	return api.Command{Frame: frame, Peer: peer, Seq: seq, Order: api.Order{Verb: api.Say, A: what}}
}

// steer is a command that every later frame tells of: a mover stands elsewhere by it.
func steer(frame int64, peer, seq int) api.Command {
	return api.Command{Frame: frame, Peer: peer, Seq: seq, Order: api.Order{Verb: api.Steer, A: seq%17 - 8, B: 3}}
}

func made(t *testing.T, c api.Config) *ladder.Ladder {
	t.Helper()
	l, e := ladder.New(c)
	if l == nil || e != api.OK {
		t.Fatalf("New(%d peers, lags %v): %v %d", c.Peers, c.Lags, l, e)
	}
	return l
}

// puts takes some in.
func puts(t *testing.T, l *ladder.Ladder, commands ...api.Command) {
	t.Helper()
	for _, c := range commands {
		if e := l.Put(c); e != api.OK {
			t.Fatalf("Put(%v): %d", c, e)
		}
	}
}

// goes is a Move that is not refused.
func goes(t *testing.T, l *ladder.Ladder, hind int64, on bool) api.Moves {
	t.Helper()
	m, e := l.Move(hind, on)
	if e != api.OK {
		t.Fatalf("Move(%d, %t) at %v: %d", hind, on, l.Frames(), e)
	}
	return m
}

// hindOf is the frame of the hindmost copy.
func hindOf(l *ladder.Ladder) int64 {
	f := l.Frames()
	return f[len(f)-1]
}

// leads lets the leading copy go so many frames, while the hindmost one stays.
func leads(t *testing.T, l *ladder.Ladder, frames int) {
	t.Helper()
	for range frames {
		goes(t, l, hindOf(l), true)
	}
}

// follows lets the hindmost copy go to a frame, as far at a time as it may, while the others stay.
func follows(t *testing.T, l *ladder.Ladder, frame int64) {
	t.Helper()
	for hindOf(l) < frame {
		goes(t, l, min(frame, hindOf(l)+4), false)
	}
}

// standing is a ladder whose leading and hindmost copies are at these frames.
func standing(t *testing.T, c api.Config, lead int, hind int64) *ladder.Ladder {
	t.Helper()
	l := made(t, c)
	leads(t, l, lead)
	follows(t, l, hind)
	return l
}

// at holds the copies to be at these frames.
func at(t *testing.T, l *ladder.Ladder, frames ...int64) {
	t.Helper()
	if got := l.Frames(); !slices.Equal(got, frames) {
		t.Errorf("Frames: %v, meant %v", got, frames)
	}
}

func misses(t *testing.T, l *ladder.Ladder, rung int, commands ...api.Command) {
	t.Helper()
	if got := l.Missed(rung); !slices.Equal(got, commands) {
		t.Errorf("Missed(%d): %v, meant %v", rung, got, commands)
	}
}

// keeps holds a ladder to keep just these entries, in this order, by all that it tells of them.
func keeps(t *testing.T, c api.Config, l *ladder.Ladder, entries ...api.Entry) {
	t.Helper()
	if got := l.Kept(); !slices.Equal(got, entries) {
		t.Errorf("Kept: %v, meant %v", got, entries)
	}
	for rung := range c.Lags {
		var by []api.Command
		for _, x := range entries {
			if x.Missed > rung {
				by = append(by, x.Command)
			}
		}
		misses(t, l, rung, by...)
	}
	hind := hindOf(l)
	for frame := hind - 3; frame <= hind+115; frame++ {
		for peer := -1; peer <= c.Peers; peer++ {
			n := 0
			for _, x := range entries {
				if x.Command.Frame == frame && x.Command.Peer == peer {
					n++
				}
			}
			if got := l.Count(frame, peer); got != n {
				t.Errorf("Count(%d, %d): %d, meant %d", frame, peer, got, n)
			}
		}
	}
}

// ref is the world behind a frame, by commands.
func ref(t *testing.T, c api.Config, frame int64, commands ...api.Command) api.World {
	t.Helper()
	w, e := world.Ref(c, frame, commands)
	if e != api.OK {
		t.Fatalf("Ref(%d, %v): %d", frame, commands, e)
	}
	return w
}

// isWorld holds a rung's copy to be a world.
func isWorld(t *testing.T, l *ladder.Ladder, rung int, want api.World) {
	t.Helper()
	if w, e := l.World(rung); e != api.OK || !clone.Same(w, want) {
		t.Errorf("World(%d): %v %d, meant %v", rung, w, e, want)
	}
}

// state is all that a ladder tells, as one text.
func state(l *ladder.Ladder) string {
	f := l.Frames()
	s := fmt.Sprint(f, l.Kept())
	for rung := range f {
		w, e := l.World(rung)
		s += fmt.Sprint(rung, w, e, l.Missed(rung))
	}
	for frame := int64(0); frame <= f[0]; frame++ {
		sum, is := l.Digest(frame)
		s += fmt.Sprint(sum, is)
	}
	return s
}

// refuses holds Put to refuse a command, and the ladder to be unchanged then.
func refuses(t *testing.T, l *ladder.Ladder, c api.Command, want api.Errno) {
	t.Helper()
	was := state(l)
	if e := l.Put(c); e != want {
		t.Errorf("Put(%v) at %v: %d, meant %d", c, l.Frames(), e, want)
	}
	if state(l) != was {
		t.Errorf("Put(%v) has changed the ladder", c)
	}
}

// stays holds Move to be refused, and the ladder to be unchanged then.
func stays(t *testing.T, l *ladder.Ladder, hind int64, on bool) {
	t.Helper()
	was := state(l)
	m, e := l.Move(hind, on)
	if e != api.ErrLadderGate || !isNothing(m) || m.Steps != 0 {
		t.Errorf("Move(%d, %t) at %v: %v %d", hind, on, l.Frames(), m, e)
	}
	if state(l) != was {
		t.Errorf("Move(%d, %t) is refused, and has changed the ladder", hind, on)
	}
}

// isNothing tells whether a Move has told nothing but its steps.
func isNothing(m api.Moves) bool {
	return m.Found == 0 && m.Copied == 0 && len(m.Late) == 0 && clone.Same(m.Wrong, api.World{}) && clone.Same(m.Right, api.World{})
}

func TestP20_4Examples(t *testing.T) {
	c := session(2, 0, 2, 5)
	l := made(t, c)
	first, late := say(3, 0, 1, 1), say(2, 1, 1, 2)
	puts(t, l, first)
	var m api.Moves
	for range 6 {
		m = goes(t, l, 0, true)
		if !isNothing(m) {
			t.Errorf("found: %v", m)
		}
	}
	at(t, l, 6, 4, 0)
	if m.Steps != 2 {
		t.Errorf("Steps of the sixth: %d", m.Steps)
	}
	puts(t, l, late)
	misses(t, l, 0, late)
	misses(t, l, 1, late)
	misses(t, l, 2)
	m = goes(t, l, 2, true)
	at(t, l, 7, 5, 2)
	if m.Found != 2 || m.Copied != 2 || m.Steps != 7 || !slices.Equal(m.Late, []api.Command{late}) {
		t.Errorf("%v", m)
	}
	if !clone.Same(m.Wrong, ref(t, c, 6, first)) || !clone.Same(m.Right, ref(t, c, 6, first, late)) {
		t.Errorf("wrong %v, right %v", m.Wrong, m.Right)
	}
	keeps(t, c, l, api.Entry{Command: first})
	stays(t, l, 1, true)
	refuses(t, l, say(2, 0, 9, 1), api.ErrLogFrame)
}

// TestP20_1Refused: each session that CheckConfig refuses, for each of its grounds.
func TestP20_1Refused(t *testing.T) {
	small, _ := arena.Standard(3) // four starts
	good := session(2, 0, 2, 5)
	change := func(f func(*api.Config)) api.Config {
		c := good
		c.Lags = slices.Clone(c.Lags)
		f(&c)
		return c
	}
	var all []api.Config
	for _, n := range append([]int{-1, 0, 1, 7, 8}, farInts...) {
		all = append(all, change(func(c *api.Config) { c.Peers = n }))
	}
	for _, lags := range [][]int{nil, {}, {0}, {0, 1, 2, 3, 4, 5}, {1, 2}, {-1, 2}, {0, 0}, {0, -1}, {0, 2, 2}, {0, 5, 2}, {0, 48}, {0, 2, 48}, {0, math.MaxInt}, {math.MinInt, 0}, {0, math.MinInt}} {
		all = append(all, change(func(c *api.Config) { c.Lags = lags }))
	}
	all = append(all,
		api.Config{},
		change(func(c *api.Config) { c.Arena, c.Peers = small, 5 }),
		change(func(c *api.Config) { c.Arena = api.Arena{} }),
		change(func(c *api.Config) { c.Arena.Cols++ }),
		change(func(c *api.Config) { c.Arena.Rows = -1 }),
		change(func(c *api.Config) { c.Arena.Signs = c.Arena.Signs[1:] }),
		change(func(c *api.Config) { c.Arena.Signs = "?" + c.Arena.Signs[1:] }),
	)
	for _, c := range all {
		if world.CheckConfig(c) != api.ErrWorldConfig {
			t.Fatalf("CheckConfig takes %v", c)
		}
		if l, e := ladder.New(c); l != nil || e != api.ErrWorldConfig {
			t.Errorf("New(%v): %v %d", c, l, e)
		}
	}
	made(t, good)
}

// lagsOf are lags of each number of rungs, as little and as great as they may be.
var lagsOf = [][]int{{0, 1}, {0, 2}, {0, 47}, {0, 1, 2}, {0, 2, 5}, {0, 46, 47}, {0, 1, 2, 3}, {0, 3, 20, 40}, {0, 1, 2, 3, 4}, {0, 2, 5, 9, 14}, {0, 44, 45, 46, 47}}

func TestP20_1Begun(t *testing.T) {
	for peers := 2; peers <= 6; peers++ {
		for _, lags := range lagsOf {
			c := session(peers, lags...)
			l := made(t, c)
			start, _ := world.New(c)
			at(t, l, make([]int64, len(lags))...)
			for rung := range lags {
				isWorld(t, l, rung, start)
			}
			keeps(t, c, l)
			sum, _ := clone.Digest(c, start)
			if got, is := l.Digest(0); got != sum || !is {
				t.Errorf("Digest(0): %x %t, meant %x", got, is, sum)
			}
			if got, is := l.Digest(1); got != 0 || is {
				t.Errorf("Digest(1): %x %t", got, is)
			}
		}
	}
}

// TestP20_1PeersAndRungs: both numbers bound what the log takes and tells.
func TestP20_1PeersAndRungs(t *testing.T) {
	for peers := 2; peers <= 6; peers++ {
		for _, lags := range lagsOf {
			l := made(t, session(peers, lags...))
			refuses(t, l, say(1, peers, 1, 1), api.ErrArg)
			puts(t, l, say(1, peers-1, 1, 1))
			leads(t, l, 1)
			puts(t, l, say(1, 0, 1, 1))
			misses(t, l, 0, say(1, 0, 1, 1))
			for rung := range lags {
				if _, e := l.World(rung); e != api.OK {
					t.Errorf("World(%d): %d", rung, e)
				}
			}
			if _, e := l.World(len(lags)); e != api.ErrArg {
				t.Errorf("World(%d): %d", len(lags), e)
			}
		}
	}
}

// TestP20_2WrongOrders: they are refused ahead of all that the log refuses, and by one error, whatever verb.Check says.
func TestP20_2WrongOrders(t *testing.T) {
	l := standing(t, session(2, 0, 2, 5), 12, 7)
	puts(t, l, say(20, 0, 1, 1), say(20, 0, 2, 1), say(20, 0, 3, 1))
	for _, o := range badOrders {
		if verb.Check(o) == api.OK {
			t.Fatalf("verb.Check takes %v", o)
		}
		for _, c := range []api.Command{
			{Frame: 20, Peer: 1, Seq: 1},  // nothing else is wrong
			{Frame: 11, Peer: 1, Seq: 1},  // a rung has passed it
			{Frame: 7, Peer: 1, Seq: 1},   // ErrLogFrame
			{Frame: 120, Peer: 1, Seq: 1}, // ErrLogFrame
			{Frame: 20, Peer: 0, Seq: 2},  // ErrLogTwice
			{Frame: 20, Peer: 0, Seq: 4},  // ErrLogFull
			{Frame: 20, Peer: 2, Seq: 1},  // ErrArg
			{Frame: 20, Peer: 1},          // ErrArg
		} {
			c.Order = o
			refuses(t, l, c, api.ErrArg)
		}
	}
	for _, x := range []struct {
		c    api.Command
		want api.Errno
	}{{say(7, 1, 1, 1), api.ErrLogFrame}, {say(120, 1, 1, 1), api.ErrLogFrame}, {say(20, 0, 2, 1), api.ErrLogTwice}, {say(20, 0, 4, 1), api.ErrLogFull}, {say(20, 2, 1, 1), api.ErrArg}, {say(20, 1, 0, 1), api.ErrArg}} {
		refuses(t, l, x.c, x.want)
	}
}

// TestP20_2AllOrders: each verb, at the ends of its operands, is kept as it is.
func TestP20_2AllOrders(t *testing.T) {
	c := session(2, 0, 2)
	l := made(t, c)
	var all []api.Entry
	for i, o := range []api.Order{{Verb: api.Steer, A: -8, B: 8}, {Verb: api.Steer, A: 8, B: -8}, {Verb: api.Halt}, {Verb: api.Aim}, {Verb: api.Aim, A: 15}, {Verb: api.Fire, A: 1}, {Verb: api.Fire, A: 3}, {Verb: api.Shield}, {Verb: api.Shield, A: 1}, {Verb: api.Dash, A: 15}, {Verb: api.Say}, {Verb: api.Say, A: 255}} {
		x := api.Command{Frame: int64(i + 1), Peer: i % 2, Seq: i + 1, Order: o}
		puts(t, l, x)
		all = append(all, api.Entry{Command: x})
	}
	keeps(t, c, l, all...)
}

// TestP20_2Missed: as many rungs have missed a command as have passed its frame when it comes, at each frame of a ladder, so just at each rung's, and one above it.
func TestP20_2Missed(t *testing.T) {
	for _, x := range []struct {
		lags []int
		lead int
		hind int64
	}{
		{[]int{0, 1}, 4, 0}, {[]int{0, 1}, 4, 2}, {[]int{0, 1}, 4, 4}, {[]int{0, 47}, 48, 0}, {[]int{0, 47}, 48, 2},
		{[]int{0, 2, 5}, 9, 3}, {[]int{0, 2, 5}, 3, 0}, {[]int{0, 1, 2}, 5, 4}, {[]int{0, 3, 7, 11}, 20, 6},
		{[]int{0, 2, 5, 9, 14}, 25, 9}, {[]int{0, 2, 5, 9, 14}, 7, 0}, {[]int{0, 1, 2, 3, 4}, 6, 3}, {[]int{0, 1, 2, 3, 4}, 0, 0},
	} {
		c := session(3, x.lags...)
		l := standing(t, c, x.lead, x.hind)
		f := l.Frames()
		var kept []api.Entry
		for frame := x.hind - 3; frame <= int64(x.lead)+3; frame++ {
			command := say(frame, 1, int(frame)+50, 1)
			if frame <= x.hind {
				refuses(t, l, command, api.ErrLogFrame)
				continue
			}
			puts(t, l, command)
			missed := 0
			for _, at := range f {
				if at >= frame {
					missed++
				}
			}
			kept = append(kept, api.Entry{Command: command, Missed: missed})
		}
		keeps(t, c, l, kept...)
	}
}

// TestP20_2MissedWorkedOut holds one ladder's misses against numbers written down.
func TestP20_2MissedWorkedOut(t *testing.T) {
	c := session(2, 0, 2, 5, 9)
	l := standing(t, c, 12, 3)
	at(t, l, 12, 10, 7, 3)
	for frame, missed := range map[int64]int{4: 3, 7: 3, 8: 2, 10: 2, 11: 1, 12: 1, 13: 0, 115: 0} {
		l := standing(t, c, 12, 3)
		puts(t, l, say(frame, 0, 1, 1))
		keeps(t, c, l, api.Entry{Command: say(frame, 0, 1, 1), Missed: missed})
	}
	for _, frame := range []int64{3, 2, 1, 0, -1, 116, 117} {
		refuses(t, l, say(frame, 0, 1, 1), api.ErrLogFrame)
	}
}

// TestP20_2Frames: what the log keeps, at its ends, wherever the hindmost copy is.
func TestP20_2Frames(t *testing.T) {
	for _, x := range [][2]int64{{0, 0}, {8, 0}, {8, 1}, {8, 3}, {8, 7}} {
		c := session(2, 0, 2)
		l := standing(t, c, int(x[0]), x[1])
		for _, frame := range append([]int64{x[1] - 112, x[1] - 1, x[1], x[1] + 113, x[1] + 224, x[1] + 225}, farFrames...) {
			refuses(t, l, say(frame, 0, 1, 1), api.ErrLogFrame)
		}
		puts(t, l, say(x[1]+112, 0, 1, 1))
		keeps(t, c, l, api.Entry{Command: say(x[1]+112, 0, 1, 1)})
	}
}

// TestP20_2WrongNumbers: seats and numbers that may not be are refused, on each frame, passed by all rungs or not kept.
func TestP20_2WrongNumbers(t *testing.T) {
	l := standing(t, session(3, 0, 2, 5), 9, 3)
	for _, frame := range append([]int64{-1, 0, 2, 3, 4, 7, 8, 9, 10, 115, 116}, farFrames...) {
		for _, n := range append([]int{-1, 3, 4, 6}, farInts...) {
			refuses(t, l, say(frame, n, 1, 1), api.ErrArg)
		}
		for _, n := range []int{math.MinInt, -1, 0, 1<<40 + 1, 1 << 62, math.MaxInt} {
			refuses(t, l, say(frame, 0, n, 1), api.ErrArg)
		}
	}
	puts(t, l, say(4, 2, 1<<40, 1), say(4, 0, 1, 1))
}

// TestP20_2TwiceAndFull: on frames that rungs have passed, and on those that none has.
func TestP20_2TwiceAndFull(t *testing.T) {
	for _, frame := range []int64{4, 7, 8, 9, 10, 115} {
		l := standing(t, session(2, 0, 2, 5), 9, 3)
		puts(t, l, say(frame, 0, 7, 1), say(frame, 0, 9, 2), say(frame, 1, 7, 3), say(frame, 1, 8, 3))
		for _, other := range []int64{4, 7, 8, 9, 10, 115} {
			refuses(t, l, say(other, 0, 7, 1), api.ErrLogTwice)
			refuses(t, l, say(other, 0, 9, 200), api.ErrLogTwice)
		}
		puts(t, l, say(frame, 0, 8, 1))
		refuses(t, l, say(frame, 0, 10, 1), api.ErrLogFull)
		refuses(t, l, say(frame, 0, 8, 1), api.ErrLogTwice)
		refuses(t, l, say(3, 0, 8, 1), api.ErrLogFrame)
		puts(t, l, say(frame, 1, 9, 1))
		if n := l.Count(frame, 0); n != 3 || len(l.Kept()) != 6 {
			t.Errorf("Count %d, %d kept", n, len(l.Kept()))
		}
	}
}

// TestP20_2AgainWhenForgotten: a number is there as long as the hindmost copy has not passed its frame; then it may be put anew, on another one.
func TestP20_2AgainWhenForgotten(t *testing.T) {
	c := session(2, 0, 2)
	l := made(t, c)
	puts(t, l, steer(1, 0, 1), say(3, 1, 1, 9))
	leads(t, l, 5)
	refuses(t, l, say(6, 0, 1, 4), api.ErrLogTwice)
	goes(t, l, 1, true)
	puts(t, l, say(6, 0, 1, 4))
	refuses(t, l, say(6, 1, 1, 4), api.ErrLogTwice)
	keeps(t, c, l, api.Entry{Command: say(3, 1, 1, 9)}, api.Entry{Command: say(6, 0, 1, 4), Missed: 1})
	goes(t, l, 5, true)
	m := goes(t, l, 6, true)
	if m.Found != 1 || !slices.Equal(m.Late, []api.Command{say(6, 0, 1, 4)}) {
		t.Errorf("%v", m)
	}
	w, _ := l.World(1)
	if want := ref(t, c, 6, steer(1, 0, 1), say(3, 1, 1, 9), say(6, 0, 2, 4)); !clone.Same(w, want) {
		t.Errorf("%v, meant %v", w, want)
	}
}

// TestP20_3Order: what is kept, and what is missed, is told by frames, seats and numbers, however it was put.
func TestP20_3Order(t *testing.T) {
	c := session(6, 0, 2, 5)
	l := standing(t, c, 9, 1)
	puts(t, l, say(8, 1, 1, 1), say(2, 5, 2, 1), say(10, 0, 4, 1), say(2, 0, 9, 1), say(2, 5, 1, 1), say(6, 3, 1, 1), say(2, 0, 8, 1), say(8, 0, 1, 1))
	keeps(t, c, l,
		api.Entry{Command: say(2, 0, 8, 1), Missed: 2}, api.Entry{Command: say(2, 0, 9, 1), Missed: 2},
		api.Entry{Command: say(2, 5, 1, 1), Missed: 2}, api.Entry{Command: say(2, 5, 2, 1), Missed: 2},
		api.Entry{Command: say(6, 3, 1, 1), Missed: 2},
		api.Entry{Command: say(8, 0, 1, 1), Missed: 1}, api.Entry{Command: say(8, 1, 1, 1), Missed: 1},
		api.Entry{Command: say(10, 0, 4, 1)})
}

// TestP20_3Forgotten: what the hindmost copy has passed is kept no more, all else is.
func TestP20_3Forgotten(t *testing.T) {
	c := session(2, 0, 3)
	l := made(t, c)
	var all []api.Entry
	for i := range 16 {
		puts(t, l, say(int64(i+1), i%2, i+1, 1))
		all = append(all, api.Entry{Command: say(int64(i+1), i%2, i+1, 1)})
	}
	leads(t, l, 12)
	keeps(t, c, l, all...)
	for _, hind := range []int64{1, 1, 3, 7, 9, 10} {
		goes(t, l, hind, false)
		keeps(t, c, l, all[hind:]...)
	}
}

// TestP20_3NoSuchRung: nothing is missed by a rung that is not there, nothing counted of what is not there.
func TestP20_3NoSuchRung(t *testing.T) {
	for _, lags := range lagsOf {
		k := len(lags)
		l := standing(t, session(2, lags...), 1, 0)
		puts(t, l, say(1, 0, 1, 1))
		misses(t, l, 0, say(1, 0, 1, 1))
		misses(t, l, k-1)
		for _, rung := range append([]int{-2, -1, k, k + 1}, farInts...) {
			misses(t, l, rung)
			if w, e := l.World(rung); e != api.ErrArg || !clone.Same(w, api.World{}) {
				t.Errorf("World(%d): %v %d", rung, w, e)
			}
		}
		for _, n := range farInts {
			if l.Count(1, n) != 0 {
				t.Errorf("Count(1, %d): %d", n, l.Count(1, n))
			}
		}
		for _, frame := range farFrames {
			if l.Count(frame, 0) != 0 {
				t.Errorf("Count(%d, 0): %d", frame, l.Count(frame, 0))
			}
		}
	}
}

// TestP20_5Worlds: each rung's own copy, at its frame.
func TestP20_5Worlds(t *testing.T) {
	c := session(4, 0, 2, 5, 9)
	l := made(t, c)
	held := []api.Command{steer(1, 0, 1), steer(2, 1, 1), steer(4, 2, 1), steer(6, 3, 1), steer(7, 0, 2), steer(9, 1, 2), steer(11, 2, 2), steer(12, 3, 2)}
	puts(t, l, held...)
	leads(t, l, 12)
	follows(t, l, 2)
	at(t, l, 12, 10, 7, 2)
	for rung, frame := range []int64{12, 10, 7, 2} {
		isWorld(t, l, rung, ref(t, c, frame, held...))
	}
	a, _ := l.World(0)
	b, _ := l.World(1)
	if clone.Same(a, b) {
		t.Error("two rungs at two frames have the same world")
	}
}

// TestP20_6Digest: the sums of the hindmost copy at each frame that it has passed, one at a time or four, with commands that others had missed.
func TestP20_6Digest(t *testing.T) {
	for _, lags := range lagsOf {
		c := session(2, lags...)
		l := made(t, c)
		held := []api.Command{steer(1, 0, 1), steer(5, 1, 1)}
		puts(t, l, held...)
		leads(t, l, 48)
		late := []api.Command{steer(3, 0, 2), steer(4, 1, 2), steer(2, 1, 3)}
		puts(t, l, late...)
		held = append(held, late...)
		hind := int64(0)
		for _, more := range []int64{1, 0, 4, 2, 4, 3} {
			if hind+more > 49-int64(lags[len(lags)-1]) {
				break
			}
			hind += more
			goes(t, l, hind, false)
			for frame := int64(0); frame <= hind; frame++ {
				want, _ := clone.Digest(c, ref(t, c, frame, held...))
				if got, is := l.Digest(frame); got != want || !is {
					t.Errorf("lags %v, Digest(%d): %x %t, meant %x", lags, frame, got, is, want)
				}
			}
			for _, frame := range append([]int64{-2, -1, hind + 1, hind + 2, 48}, farFrames...) {
				if got, is := l.Digest(frame); got != 0 || is {
					t.Errorf("lags %v, Digest(%d): %x %t", lags, frame, got, is)
				}
			}
		}
	}
}

// TestP20_1TwoLadders: they know nothing of one another.
func TestP20_1TwoLadders(t *testing.T) {
	c, d := session(2, 0, 2, 5), session(6, 0, 1)
	a, alone := made(t, c), made(t, c)
	b := made(t, d)
	for i := range 30 {
		frame := int64(i + 1)
		puts(t, a, steer(frame, 0, i+1))
		puts(t, alone, steer(frame, 0, i+1))
		puts(t, b, steer(frame, 5, i+1), say(frame, 0, i+1, i))
		for _, l := range []*ladder.Ladder{a, alone} {
			goes(t, l, max(hindOf(l), frame-6), true)
		}
		puts(t, b, steer(frame, 4, i+1))
		goes(t, b, frame-1, true)
		if frame > 3 {
			puts(t, a, steer(frame-2, 1, i+1))
			puts(t, alone, steer(frame-2, 1, i+1))
		}
		if state(a) != state(alone) {
			t.Fatalf("frame %d: one is another one beside a third: %v, %v", frame, a.Frames(), alone.Frames())
		}
	}
	at(t, b, 30, 29)
}
