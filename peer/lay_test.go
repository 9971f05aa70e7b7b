package peer_test

import (
	"slices"
	"testing"

	"echelon/api"
	"echelon/verb"
)

// TestP22_2Orders: a wrong order is told ahead of a wrong frame, and of a full one.
func TestP22_2Orders(t *testing.T) {
	p := made(t, session(2, 0, 2), 1)
	ticks(t, p, 5)
	lays(t, p, 8, say(1), say(2), say(3))
	for _, o := range badOrders {
		want := verb.Check(o)
		if want == api.OK {
			t.Fatalf("verb.Check takes %v", o)
		}
		for _, frame := range append([]int64{6, 7, 8, 21, 0, 5, 22}, farFrames...) {
			noLay(t, p, o, frame, want)
		}
	}
	lays(t, p, 6, say(4))
}

// TestP22_2Frames: on which frames a command may be laid, at the beginning, later, and where the leading copy stays.
func TestP22_2Frames(t *testing.T) {
	for _, lead := range []int64{0, 1, 7, 31, 48} {
		p := made(t, session(2, 0, 2), 0)
		ticks(t, p, int(lead))
		for _, frame := range append([]int64{lead - 16, lead - 1, lead, lead + 17, lead + 18, lead + 112}, farFrames...) {
			noLay(t, p, say(1), frame, api.ErrStamp)
		}
		for frame := lead + 1; frame <= lead+16; frame++ {
			lays(t, p, frame, say(1))
		}
		if p.Kept() != 16 {
			t.Errorf("at %d: %d are kept", lead, p.Kept())
		}
	}
}

// TestP22_2FramesGoOn: a frame may be laid for as long as the leading copy has not come to it.
func TestP22_2FramesGoOn(t *testing.T) {
	p := made(t, session(2, 0, 2), 0)
	noLay(t, p, say(1), 17, api.ErrStamp)
	ticks(t, p, 1)
	lays(t, p, 17, say(1))
	ticks(t, p, 15)
	lays(t, p, 17, say(2))
	ticks(t, p, 1)
	noLay(t, p, say(3), 17, api.ErrStamp)
	ticks(t, p, 31)
	stalls(t, p)
	lays(t, p, 49, say(4))
	lays(t, p, 64, say(5))
	noLay(t, p, say(6), 65, api.ErrStamp)
}

// TestP22_2Room: the third command on a frame is the last one; each frame has its own room, the others' commands take none of it.
func TestP22_2Room(t *testing.T) {
	c := session(3, 0, 2)
	p := made(t, c, 1)
	takes(t, p, bytesOf(t, turn(c, 0, 1, 0, 1, 0, 5, 5, 5, 6, 7)), 1)
	takes(t, p, bytesOf(t, turn(c, 2, 1, 0, 1, 0, 5, 5, 5)), 1)
	for _, frame := range []int64{5, 1, 16, 6} {
		lays(t, p, frame, say(1), say(2), say(3))
		noLay(t, p, say(4), frame, api.ErrFull)
		noLay(t, p, steer(4), frame, api.ErrFull)
	}
	if p.Kept() != 20 {
		t.Errorf("%d are kept", p.Kept())
	}
	ticks(t, p, 4)
	noLay(t, p, say(4), 5, api.ErrFull)
	noLay(t, p, say(4), 1, api.ErrStamp) // full, and passed
	lays(t, p, 7, say(4), say(5), say(6))
	noLay(t, p, say(7), 7, api.ErrFull)
	ticks(t, p, 1)
	noLay(t, p, say(4), 5, api.ErrStamp)
	noLay(t, p, say(4), 6, api.ErrFull)
	lays(t, p, 17, say(4))
}

// TestP22_2Acknowledged: what others have acknowledged takes room on its frame still.
func TestP22_2Acknowledged(t *testing.T) {
	c := session(2, 0, 2)
	p := made(t, c, 0)
	lays(t, p, 3, say(1), say(2), say(3))
	takes(t, p, bytesOf(t, ackOf(c, 1, 0, 3)), 0)
	noLay(t, p, say(4), 3, api.ErrFull)
	ticks(t, p, 2)
	noLay(t, p, say(4), 3, api.ErrFull)
}

// TestP22_2Laid: what is laid has its frame, the seat, the next number and its order; it is held, kept, and goes to each other peer.
func TestP22_2Laid(t *testing.T) {
	for peers := 2; peers <= 6; peers++ {
		c := session(peers, 0, 2, 5)
		for seat := range peers {
			p := made(t, c, seat)
			ticks(t, p, 2)
			n := p.Counters()
			var laid []api.Command
			for i, o := range []api.Order{{Verb: api.Steer, A: -8, B: 8}, {Verb: api.Halt}, {Verb: api.Aim, A: 15}, {Verb: api.Fire, A: 3}, {Verb: api.Shield, A: 1}, {Verb: api.Dash}, {Verb: api.Say, A: 255}} {
				frame := int64(3 + i/2*5) // 3, 8, 13, 18
				lays(t, p, frame, o)
				noLay(t, p, say(1), 19, api.ErrStamp) // what is refused has no number
				laid = append(laid, command(frame, seat, i+1, o))
				n.Accepted++
				counts(t, p, n)
				holds(t, p, laid...)
				if p.Kept() != i+1 {
					t.Errorf("%d are kept, of %d", p.Kept(), i+1)
				}
				links := slices.Repeat([]api.LinkState{{Own: i + 1, Next: 1}}, peers)
				links[seat] = api.LinkState{}
				if got := p.Links(); !slices.Equal(got, links) {
					t.Errorf("Links: %v, meant %v", got, links)
				}
			}
			at(t, p, 2, 0, 0)
			var want []api.Datagram
			for other := range peers {
				if other != seat {
					d := turn(c, seat, other, 3, 1, 0)
					d.Commands = laid
					want = append(want, d)
				}
			}
			is(t, ticks(t, p, 1), want...)
			isWorld(t, p, 0, ref(t, c, 3, laid...))
			for rung := range 3 {
				misses(t, p, rung)
			}
		}
	}
}

// TestP22_2NumbersRise by the order in which commands are laid, not by their frames.
func TestP22_2NumbersRise(t *testing.T) {
	c := session(2, 0, 2)
	p := made(t, c, 0)
	for i, frame := range []int64{9, 2, 2, 16, 1, 9} {
		lays(t, p, frame, say(i))
	}
	holds(t, p, command(1, 0, 5, say(4)), command(2, 0, 2, say(1)), command(2, 0, 3, say(2)), command(9, 0, 1, say(0)), command(9, 0, 6, say(5)), command(16, 0, 4, say(3)))
	d := turn(c, 0, 1, 1, 1, 0)
	for i, frame := range []int64{9, 2, 2, 16, 1, 9} {
		d.Commands = append(d.Commands, command(frame, 0, i+1, say(i)))
	}
	is(t, ticks(t, p, 1), d)
}

// TestP22_2MostUnacknowledged: the other one acknowledges as little as it may. Whatever may be laid is laid all the same, and just fits into a Turn.
func TestP22_2MostUnacknowledged(t *testing.T) {
	c := session(2, 0, 1)
	p := made(t, c, 0)
	fill := func() {
		for frame := leadOf(p) + 1; frame <= leadOf(p)+16; frame++ {
			for p.Command(steer(int(frame)), frame) == api.OK {
			}
		}
	}
	unacknowledged := func() int { return p.Links()[1].Own - p.Links()[1].Acked }
	for range 48 {
		fill()
		ticks(t, p, 1)
	}
	fill()
	stalls(t, p)
	if unacknowledged() != 64*3 {
		t.Fatalf("%d are unacknowledged", unacknowledged())
	}
	refuses(t, p, bytesOf(t, turn(c, 1, 0, 49, 1, 0)), api.ErrBroken)
	takes(t, p, bytesOf(t, turn(c, 1, 0, 48, 1, 0)), 1)
	for range 48 {
		ticks(t, p, 1)
		fill()
	}
	stalls(t, p)
	at(t, p, 96, 48)
	if unacknowledged() != 336 || p.Counters().Accepted != 336 {
		t.Fatalf("%d are unacknowledged", unacknowledged())
	}
	noLay(t, p, say(1), 112, api.ErrFull)
	noLay(t, p, say(1), 113, api.ErrStamp)
	d := turn(c, 0, 1, 96, 1, 0)
	all := p.Held()
	d.Commands = all
	is(t, stalls(t, p), d)
	// With each frame's commands acknowledged one frame more may be passed, and filled.
	for i := range int64(20) {
		refuses(t, p, bytesOf(t, turn(c, 1, 0, 49+i, 1, 3*int(i)+2)), api.ErrBroken)
		takes(t, p, bytesOf(t, turn(c, 1, 0, 49+i, 1, 3*int(i)+3)), 1)
		ticks(t, p, 1)
		if unacknowledged() != 333 {
			t.Fatalf("%d are unacknowledged", unacknowledged())
		}
		lays(t, p, 113+i, say(1), say(2), say(3))
		noLay(t, p, say(4), 113+i, api.ErrFull)
		stalls(t, p)
	}
}
