package peer_test

import (
	"testing"

	"echelon/api"
	"echelon/peer"
)

// TestP22_3NothingHasCome: of each number of peers and of rungs, Tick by Tick, till the leading copy is too far ahead, and then.
func TestP22_3NothingHasCome(t *testing.T) {
	for i, lags := range lagsOf {
		peers := 2 + i%5
		c := session(peers, lags...)
		seat := i % peers
		p := made(t, c, seat)
		var n api.Counters
		for tick := 1; tick <= 52; tick++ {
			was := p.Frames()
			out, e := p.Tick()
			lead := min(tick, 48)
			var want []api.Datagram
			for other := range peers {
				if other != seat {
					want = append(want, turn(c, seat, other, int64(lead), 1, 0))
				}
			}
			is(t, out, want...)
			frames := make([]int64, len(lags))
			steps := 0
			for rung, lag := range lags[:len(lags)-1] {
				frames[rung] = int64(max(0, lead-lag))
				steps += int(frames[rung] - was[rung])
			}
			at(t, p, frames...)
			did(t, p, api.Moves{Steps: steps})
			n.Ticks++
			n.Steps += steps
			n.Sent += peers - 1
			stall := api.OK
			if tick > 48 {
				stall = api.ErrStall
				n.Stalls++
			}
			counts(t, p, n)
			if e != stall {
				t.Fatalf("lags %v, Tick %d: %d, meant %d", lags, tick, e, stall)
			}
		}
		isWorld(t, p, 0, ref(t, c, 48))
		isWorld(t, p, len(lags)-1, ref(t, c, 0))
	}
}

// marked is a peer of three, on seat 1, behind so many Ticks, to which these marks of seats 0 and 2 have come then.
func marked(t *testing.T, c api.Config, lead int, first, third int64) *peer.Peer {
	t.Helper()
	p := made(t, c, 1)
	ticks(t, p, lead)
	takes(t, p, bytesOf(t, turn(c, 0, 1, first, 1, 0)), min(1, int(first)))
	takes(t, p, bytesOf(t, turn(c, 2, 1, third, 1, 0)), min(1, int(third)))
	return p
}

// TestP22_3Hind: how far the hindmost copy goes: not at all, by one, by more, by CatchUp; held by its lag, by either mark, by CatchUp.
func TestP22_3Hind(t *testing.T) {
	for _, x := range []struct {
		lag          int
		lead         int
		first, third int64
		hinds        []int64 // behind the Ticks that follow
	}{
		{2, 10, 0, 20, []int64{0, 0}},
		{2, 10, 20, 0, []int64{0, 0}},
		{2, 10, 1, 20, []int64{1, 1}},
		{2, 10, 20, 1, []int64{1, 1}},
		{2, 10, 3, 2, []int64{2, 2}},
		{2, 10, 3, 3, []int64{3, 3}},
		{2, 10, 4, 3, []int64{3, 3}},
		{2, 10, 4, 4, []int64{4, 4}},
		{2, 10, 5, 9, []int64{4, 5, 5}},
		{2, 10, 40, 30, []int64{4, 8, 11, 12, 13}}, // 10 + 1 - 2 is 9, then 10, then 11
		{2, 1, 40, 30, []int64{0, 1, 2}},
		{2, 0, 40, 30, []int64{0, 0, 1, 2}},
		{1, 1, 40, 30, []int64{1, 2, 3}},
		{1, 0, 40, 30, []int64{0, 1, 2}},
		{9, 10, 40, 30, []int64{2, 3, 4}},
		{9, 7, 40, 30, []int64{0, 0, 1, 2}},
		{47, 47, 40, 30, []int64{1, 2, 3}},
		{47, 48, 2, 1, []int64{1, 1}},
		{47, 48, 9, 1, []int64{1, 1}},
		{47, 48, 9, 9, []int64{2, 3, 4}},
		{47, 45, 40, 30, []int64{0, 0, 1, 2}},
	} {
		c := session(3, 0, x.lag)
		p := marked(t, c, x.lead, x.first, x.third)
		lead := int64(x.lead)
		for _, hind := range x.hinds {
			want := api.OK
			if lead-hind == 48 {
				want = api.ErrStall
			} else {
				lead++
			}
			if _, e := p.Tick(); e != want {
				t.Errorf("%v: Tick at %d: %d, meant %d", x, lead, e, want)
			}
			if got := p.Frames(); got[0] != lead || got[1] != hind {
				t.Errorf("%v: %v, meant %d, %d", x, got, lead, hind)
			}
		}
	}
}

// TestP22_3Between: the rungs between go with the leading one, whatever the hindmost one waits for.
func TestP22_3Between(t *testing.T) {
	c := session(3, 0, 2, 5, 9)
	p := marked(t, c, 12, 5, 6)
	at(t, p, 12, 10, 7, 0)
	ticks(t, p, 1)
	at(t, p, 13, 11, 8, 4)
	did(t, p, api.Moves{Steps: 7})
	ticks(t, p, 1)
	at(t, p, 14, 12, 9, 5)
	did(t, p, api.Moves{Steps: 4})
	ticks(t, p, 1)
	at(t, p, 15, 13, 10, 5)
	did(t, p, api.Moves{Steps: 3})
}

// TestP22_3Stall: the Tick ahead of the span's end, the one at it, and those behind it; what it has done stays, its parcels are there.
func TestP22_3Stall(t *testing.T) {
	c := session(2, 0, 2, 5)
	p := made(t, c, 0)
	ticks(t, p, 47)
	at(t, p, 47, 45, 0)
	is(t, ticks(t, p, 1), turn(c, 0, 1, 48, 1, 0))
	at(t, p, 48, 46, 0)
	lays(t, p, 49, say(1))
	d := turn(c, 0, 1, 48, 1, 0)
	d.Commands = []api.Command{command(49, 0, 1, say(1))}
	n := p.Counters()
	for range 3 {
		is(t, stalls(t, p), d)
		n.Ticks++
		n.Stalls++
		n.Sent++
		counts(t, p, n)
		at(t, p, 48, 46, 0)
		did(t, p, api.Moves{})
	}
	// One frame is enough to go on by one.
	takes(t, p, bytesOf(t, turn(c, 1, 0, 1, 1, 0)), 1)
	d.Mark = 49
	is(t, ticks(t, p, 1), d)
	at(t, p, 49, 47, 1)
	did(t, p, api.Moves{Steps: 3})
	is(t, stalls(t, p), d)
	at(t, p, 49, 47, 1)
	// With more of them, it goes on till it is as far ahead again.
	takes(t, p, bytesOf(t, turn(c, 1, 0, 7, 1, 0)), 1)
	for lead := int64(50); lead <= 55; lead++ {
		ticks(t, p, 1)
		at(t, p, lead, lead-2, min(7, 1+4*(lead-49)))
	}
	stalls(t, p)
	at(t, p, 55, 53, 7)
	if n := p.Counters(); n.Stalls != 5 || n.Ticks != 60 {
		t.Errorf("%+v", n)
	}
}

// TestP22_3StallOfMany: each other peer gets its parcel.
func TestP22_3StallOfMany(t *testing.T) {
	c := session(6, 0, 1, 2, 3, 4)
	p := made(t, c, 3)
	ticks(t, p, 48)
	for other := range 6 {
		if other != 3 && other != 4 {
			takes(t, p, bytesOf(t, turn(c, other, 3, 48, 1, 0)), 1)
		}
	}
	is(t, stalls(t, p), turn(c, 3, 0, 48, 1, 0), turn(c, 3, 1, 48, 1, 0), turn(c, 3, 2, 48, 1, 0), turn(c, 3, 4, 48, 1, 0), turn(c, 3, 5, 48, 1, 0))
	takes(t, p, bytesOf(t, turn(c, 4, 3, 3, 1, 0)), 1)
	ticks(t, p, 1)
	at(t, p, 49, 48, 47, 46, 3)
}

// TestP22_3Turns: each other peer gets what it has not acknowledged, and is told what has come of it.
func TestP22_3Turns(t *testing.T) {
	c := session(4, 0, 3)
	p := made(t, c, 2)
	lays(t, p, 2, say(1), say(2))
	lays(t, p, 4, say(3))
	laid := []api.Command{command(2, 2, 1, say(1)), command(2, 2, 2, say(2)), command(4, 2, 3, say(3))}
	with := func(to int, mark int64, first, ack int) api.Datagram {
		d := turn(c, 2, to, mark, first, ack)
		d.Commands = laid[first-1:]
		return d
	}
	is(t, ticks(t, p, 1), with(0, 1, 1, 0), with(1, 1, 1, 0), with(3, 1, 1, 0))
	takes(t, p, bytesOf(t, ackOf(c, 0, 2, 2)), 0)
	takes(t, p, bytesOf(t, turn(c, 3, 2, 1, 1, 3, 2, 5)), 1)
	is(t, ticks(t, p, 1), with(0, 2, 3, 0), with(1, 2, 1, 0), with(3, 2, 4, 2))
	lays(t, p, 18, say(4))
	laid = append(laid, command(18, 2, 4, say(4)))
	is(t, ticks(t, p, 1), with(0, 3, 3, 0), with(1, 3, 1, 0), with(3, 3, 4, 2))
	takes(t, p, bytesOf(t, turn(c, 1, 2, 0, 1, 4)), 1)
	takes(t, p, bytesOf(t, ackOf(c, 0, 2, 1)), 0) // an old one
	is(t, ticks(t, p, 1), with(0, 4, 3, 0), with(1, 4, 5, 0), with(3, 4, 4, 2))
}

// late is a peer of two, on seat 0, to which a command comes late.
type late struct {
	lags   []int
	lead   int
	mark   int64 // that comes with it
	frame  int64 // of the command
	missed int   // rungs that have missed it
	early  int   // Ticks that do not find it yet
	moves  api.Moves
	frames []int64 // behind the Tick that finds it
}

func TestP22_3Late(t *testing.T) {
	for _, x := range []late{
		// By the hindmost rung, of two and of more.
		{[]int{0, 3}, 8, 1, 1, 1, 0, api.Moves{Steps: 9, Found: 1, Copied: 1}, []int64{9, 1}},
		{[]int{0, 3}, 8, 4, 1, 1, 0, api.Moves{Steps: 9, Found: 1, Copied: 1}, []int64{9, 4}},
		{[]int{0, 3}, 8, 9, 4, 1, 0, api.Moves{Steps: 9, Found: 1, Copied: 1}, []int64{9, 4}},
		{[]int{0, 3}, 8, 9, 5, 1, 1, api.Moves{Steps: 6, Found: 1, Copied: 1}, []int64{10, 7}},
		{[]int{0, 2, 5}, 8, 4, 2, 2, 0, api.Moves{Steps: 9, Found: 2, Copied: 2}, []int64{9, 7, 4}},
		{[]int{0, 1, 2, 3, 9}, 20, 6, 4, 4, 0, api.Moves{Steps: 21, Found: 4, Copied: 4}, []int64{21, 20, 19, 18, 4}},
		{[]int{0, 1, 2, 3, 9}, 20, 6, 5, 4, 1, api.Moves{Steps: 18, Found: 4, Copied: 4}, []int64{22, 21, 20, 19, 6}},
		// By one between.
		{[]int{0, 2, 5, 9}, 6, 0, 3, 2, 1, api.Moves{Steps: 6, Found: 2, Copied: 2}, []int64{8, 6, 3, 0}},
		{[]int{0, 2, 5, 9}, 6, 1, 2, 2, 0, api.Moves{Steps: 6, Found: 2, Copied: 2}, []int64{7, 5, 2, 0}},
		{[]int{0, 2, 5, 9, 14}, 9, 0, 1, 3, 0, api.Moves{Steps: 10, Found: 3, Copied: 3}, []int64{10, 8, 5, 1, 0}},
		{[]int{0, 2, 5, 9, 14}, 9, 0, 5, 2, 0, api.Moves{Steps: 7, Found: 2, Copied: 2}, []int64{10, 8, 5, 1, 0}},
		// By the rung behind the leading one.
		{[]int{0, 3, 7}, 9, 0, 7, 1, 0, api.Moves{Steps: 4, Found: 1, Copied: 1}, []int64{10, 7, 0}},
		{[]int{0, 3, 7}, 9, 2, 7, 1, 0, api.Moves{Steps: 6, Found: 1, Copied: 1}, []int64{10, 7, 2}},
		{[]int{0, 3, 7}, 9, 2, 9, 1, 2, api.Moves{Steps: 4, Found: 1, Copied: 1}, []int64{12, 9, 2}},
		{[]int{0, 3, 7, 11, 20}, 9, 0, 7, 1, 0, api.Moves{Steps: 5, Found: 1, Copied: 1}, []int64{10, 7, 3, 0, 0}},
	} {
		comesLate(t, x)
	}
}

func comesLate(t *testing.T, x late) {
	t.Helper()
	c := session(2, x.lags...)
	p := made(t, c, 0)
	lays(t, p, 1, steer(5))
	own, comes := command(1, 0, 1, steer(5)), command(x.frame, 1, 1, steer(1))
	ticks(t, p, x.lead)
	takes(t, p, bytesOf(t, turn(c, 1, 0, x.mark, 1, 1, x.frame)), 1)
	for rung := range x.lags {
		if rung < x.missed {
			misses(t, p, rung, comes)
		} else {
			misses(t, p, rung)
		}
	}
	for range x.early {
		ticks(t, p, 1)
		if m := p.Last(); m.Found != 0 {
			t.Errorf("%v: found too early: %+v", x, m)
		}
	}
	n, lead := p.Counters(), leadOf(p)
	out := ticks(t, p, 1)
	is(t, out, turn(c, 0, 1, lead+1, 2, 1))
	at(t, p, x.frames...)
	x.moves.Late = []api.Command{comes}
	x.moves.Wrong, x.moves.Right = ref(t, c, lead, own), ref(t, c, lead, own, comes)
	did(t, p, x.moves)
	n.Ticks++
	n.Sent++
	n.Steps += x.moves.Steps
	n.Copies += x.moves.Copied
	n.Late++
	counts(t, p, n)
	for rung, frame := range x.frames {
		misses(t, p, rung)
		isWorld(t, p, rung, ref(t, c, frame, own, comes))
	}
	ticks(t, p, 1)
	if m := p.Last(); m.Found != 0 || len(m.Late) != 0 || m.Wrong.Frame != 0 {
		t.Errorf("%v: found again: %+v", x, m)
	}
}

// TestP22_3LateTwice: the counters grow by each find, and by each command of it; what a rung between has found the hindmost one has not to find again.
func TestP22_3LateTwice(t *testing.T) {
	c := session(3, 0, 2, 5)
	p := made(t, c, 1)
	ticks(t, p, 9)
	at(t, p, 9, 7, 0)
	takes(t, p, bytesOf(t, turn(c, 0, 1, 0, 1, 0, 8, 8, 9)), 1)
	takes(t, p, bytesOf(t, turn(c, 2, 1, 9, 1, 0, 2, 3, 3, 8)), 1)
	ticks(t, p, 1) // rung 1 finds three on frame 8
	at(t, p, 10, 8, 0)
	if m := p.Last(); m.Found != 1 || len(m.Late) != 3 || m.Steps != 3 {
		t.Errorf("%+v", m)
	}
	misses(t, p, 1, command(2, 2, 1, steer(1)), command(3, 2, 2, steer(2)), command(3, 2, 3, steer(3)))
	takes(t, p, bytesOf(t, turn(c, 0, 1, 9, 4, 0)), 1)
	ticks(t, p, 1) // the hindmost one finds three up to frame 4
	at(t, p, 11, 9, 4)
	if m := p.Last(); m.Found != 2 || len(m.Late) != 3 || m.Steps != 11 {
		t.Errorf("%+v", m)
	}
	for range 3 {
		ticks(t, p, 1)
		if m := p.Last(); m.Found != 0 {
			t.Errorf("%+v", m)
		}
	}
	if n := p.Counters(); n.Late != 6 || n.Copies != 3 {
		t.Errorf("%+v", n)
	}
	for rung, frame := range p.Frames() {
		isWorld(t, p, rung, ref(t, c, frame, p.Held()...))
	}
}

// TestP22_3Forgets: what the hindmost copy has passed is kept no more, but held.
func TestP22_3Forgets(t *testing.T) {
	c := session(2, 0, 2)
	p := made(t, c, 0)
	for frame := int64(1); frame <= 8; frame++ {
		lays(t, p, frame, say(1), say(2))
	}
	takes(t, p, bytesOf(t, turn(c, 1, 0, 6, 1, 0, 3, 7)), 1)
	kept := []int{18, 18, 16, 14, 11, 9, 7, 5, 5, 5} // 2 a frame, one more on frames 3 and 7
	for i, want := range kept {
		ticks(t, p, 1)
		if p.Kept() != want {
			t.Errorf("Tick %d at %v: %d are kept, meant %d", i+1, p.Frames(), p.Kept(), want)
		}
		if len(p.Held()) != 18 {
			t.Errorf("Tick %d: %d are held", i+1, len(p.Held()))
		}
	}
}
