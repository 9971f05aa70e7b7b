package peer_test

import (
	"bytes"
	"slices"
	"sync"
	"testing"

	"echelon/api"
	"echelon/clone"
	"echelon/peer"
)

// spoil writes over a list, and over the room behind its end.
func spoil[T any](l []T, with T) {
	l = l[:cap(l)]
	for i := range l {
		l[i] = with
	}
}

var badCommand = api.Command{Frame: -1, Peer: -2, Seq: -3, Order: api.Order{Verb: -4}}

func spoilWorld(w api.World) {
	spoil(w.Movers, api.Mover{Health: -1, Said: 77})
	spoil(w.Scores, api.Score{Points: -1, Outs: 77})
	spoil(w.Shots, api.Shot{No: -1})
	spoil(w.Pickups, api.Pickup{No: -1})
}

func spoilMoves(m api.Moves) {
	spoilWorld(m.Wrong)
	spoilWorld(m.Right)
	spoil(m.Late, badCommand)
}

func spoilParcels(l []api.Parcel) {
	for _, x := range l {
		spoil(x.Bytes, 0xee)
	}
	spoil(l, api.Parcel{No: -1, From: -2, To: -3})
}

// spoilAll asks a peer for all that it tells, and writes over it.
func spoilAll(p *peer.Peer) {
	for rung := range p.Frames() {
		w, _ := p.World(rung)
		spoilWorld(w)
		spoil(p.Missed(rung), badCommand)
	}
	spoil(p.Held(), badCommand)
	spoil(p.Frames(), -5)
	spoil(p.Links(), api.LinkState{Own: -1, Next: -1, Mark: -1})
	spoilMoves(p.Last())
}

// fight lets a peer of two have shots and pickups, late commands, and a find in its last Tick.
func fight(t *testing.T, c api.Config) *peer.Peer {
	t.Helper()
	p := made(t, c, 0)
	for i := range 36 {
		if i%9 == 0 {
			lays(t, p, leadOf(p)+1, api.Order{Verb: api.Fire, A: 1})
			lays(t, p, leadOf(p)+3, api.Order{Verb: api.Steer, A: 4, B: 2})
		}
		ticks(t, p, 1)
	}
	d := turn(c, 1, 0, 3, 1, 2, 2, 5, 18, 19)
	for i := range d.Commands {
		d.Commands[i].Order = api.Order{Verb: api.Fire, A: 1 + i%3}
	}
	takes(t, p, bytesOf(t, d), 1)
	ticks(t, p, 1)
	return p
}

// TestP22_5AnswersAreNewMemory: who writes into an answer changes nothing of the peer, nor of another answer.
func TestP22_5AnswersAreNewMemory(t *testing.T) {
	c := session(2, 0, 2, 5)
	p, twin := fight(t, c), fight(t, c)
	w, _ := p.World(0)
	m := p.Last()
	if len(w.Shots) == 0 || len(w.Pickups) == 0 || len(p.Missed(1)) != 0 || m.Found == 0 || len(m.Wrong.Shots) == 0 || len(m.Right.Pickups) == 0 {
		t.Fatalf("too little happens: %v, %v", w, m)
	}
	takes(t, p, bytesOf(t, turn(c, 1, 0, 3, 5, 2, 4, 17, 18)), 1)
	takes(t, twin, bytesOf(t, turn(c, 1, 0, 3, 5, 2, 4, 17, 18)), 1)
	was, held, missed, links, frames := state(p), p.Held(), p.Missed(1), p.Links(), p.Frames()
	heldWas, missedWas, linksWas, framesWas, worldWas := slices.Clone(held), slices.Clone(missed), slices.Clone(links), slices.Clone(frames), clone.Copy(w)
	spoilAll(p)
	if state(p) != was {
		t.Fatal("what is written into answers is seen in the peer")
	}
	for range 60 {
		out, _ := p.Tick()
		out2, _ := twin.Tick()
		if len(out) != 1 || len(out2) != 1 || !bytes.Equal(out[0].Bytes, out2[0].Bytes) {
			t.Fatalf("%v, meant %v", out, out2)
		}
		spoilParcels(out)
		spoilAll(p)
		if state(p) != state(twin) {
			t.Fatal("what is written into answers is seen in the peer")
		}
	}
	if !slices.Equal(held, heldWas) || !slices.Equal(missed, missedWas) || !slices.Equal(links, linksWas) || !slices.Equal(frames, framesWas) || !clone.Same(w, worldWas) {
		t.Error("what was told has changed")
	}
}

// TestP22_6LastIsNewMemory: its lists share nothing with one another, with the copies, with what is told again, and they stay.
func TestP22_6LastIsNewMemory(t *testing.T) {
	for _, lags := range [][]int{{0, 2, 5}, {0, 20}, {0, 1}, {0, 1, 2, 3, 4}} {
		p := fight(t, session(2, lags...))
		first, second := p.Last(), p.Last()
		if first.Found == 0 || len(first.Late) == 0 || len(first.Wrong.Shots) == 0 || clone.Same(first.Wrong, first.Right) {
			t.Fatalf("too little happens: %+v", first)
		}
		was := state(p)
		spoilWorld(first.Wrong)
		if !clone.Same(first.Right, second.Right) || !slices.Equal(first.Late, second.Late) {
			t.Error("Wrong shares memory with the rest of its answer")
		}
		spoil(first.Late, badCommand)
		if !clone.Same(first.Right, second.Right) {
			t.Error("Late and Right share memory")
		}
		spoilWorld(first.Right)
		if !sameMoves(second, p.Last()) || state(p) != was {
			t.Error("what is written into an answer is seen elsewhere")
		}
		late, wrong, right := slices.Clone(second.Late), clone.Copy(second.Wrong), clone.Copy(second.Right)
		for range 10 {
			p.Tick()
			spoilAll(p)
		}
		if !slices.Equal(late, second.Late) || !clone.Same(wrong, second.Wrong) || !clone.Same(right, second.Right) {
			t.Error("what was told has changed")
		}
	}
}

// TestP22_3ParcelsAreNewMemory: the parcels of a Tick, and the answer of a Receive, share nothing with one another, with the peer, with later ones.
func TestP22_3ParcelsAreNewMemory(t *testing.T) {
	c := session(6, 0, 2)
	p, twin := made(t, c, 2), made(t, c, 2)
	for round := range 55 { // the last ones stall
		for _, x := range []*peer.Peer{p, twin} {
			lays(t, x, leadOf(x)+1+int64(round%16), steer(round))
		}
		out, e := p.Tick()
		want, e2 := twin.Tick()
		if e != e2 || len(out) != 5 || len(want) != 5 {
			t.Fatalf("%v %d, meant %v %d", out, e, want, e2)
		}
		for i := range out {
			for j := i; j < len(out); j++ {
				if !bytes.Equal(out[j].Bytes, want[j].Bytes) {
					t.Fatalf("round %d: parcel %d was written over with parcel %d", round, j, i-1)
				}
			}
			spoil(out[i].Bytes, 0xee)
		}
		spoilParcels(out)
		if leadOf(p) > 40 {
			continue
		}
		b := bytesOf(t, turn(c, 4, 2, int64(round+1), 1, 0))
		back, again := takes(t, p, b, 1), takes(t, twin, b, 1)
		spoilParcels(back)
		is(t, again, ackOf(c, 2, 4, 0))
	}
	if state(p) != state(twin) {
		t.Error("what is written into parcels is seen in the peer")
	}
}

// TestP22_3ParcelsStay as they were when they were sent, whatever the peer does then.
func TestP22_3ParcelsStay(t *testing.T) {
	c := session(2, 0, 2)
	p := made(t, c, 0)
	lays(t, p, 2, say(1), say(2))
	out := ticks(t, p, 1)
	was := bytes.Clone(out[0].Bytes)
	back := takes(t, p, bytesOf(t, turn(c, 1, 0, 1, 1, 1)), 1)
	backWas := bytes.Clone(back[0].Bytes)
	for range 20 {
		lays(t, p, leadOf(p)+1, say(3))
		ticks(t, p, 1)
	}
	takes(t, p, bytesOf(t, turn(c, 1, 0, 9, 1, 20, 15)), 1)
	if !bytes.Equal(out[0].Bytes, was) || !bytes.Equal(back[0].Bytes, backWas) {
		t.Error("parcels have changed")
	}
}

// TestP22_1HandedIn: who writes into a session that was handed in changes nothing of the peer, and the peer changes nothing of it.
func TestP22_1HandedIn(t *testing.T) {
	room := []int{0, 2, 5, 40, 41, 42}
	c := session(2, room[:3]...)
	p, alone := made(t, c, 0), made(t, session(2, 0, 2, 5), 0)
	other := session(2, 0, 2, 5)
	for i := range 40 {
		for _, x := range []*peer.Peer{p, alone} {
			lays(t, x, leadOf(x)+2, steer(i))
			takes(t, x, bytesOf(t, turn(other, 1, 0, int64(i), i+1, i, int64(i+1))), 1)
			ticks(t, x, 1)
		}
		if i == 9 && !slices.Equal(room, []int{0, 2, 5, 40, 41, 42}) {
			t.Errorf("the session was changed: %v", room)
		}
		if i >= 9 {
			spoil(room, 30-i)
			c.Peers, c.Seed, c.Arena = 6, 99, api.Arena{}
		}
		if state(p) != state(alone) {
			t.Fatalf("%d: what is written into the session is seen in the peer: %v, %v", i, p.Frames(), alone.Frames())
		}
	}
}

// TestP22_4HandedIn: bytes that were handed in are neither changed nor kept, the room behind their end neither.
func TestP22_4HandedIn(t *testing.T) {
	c := session(3, 0, 2, 5)
	p, twin := busy(t, c), busy(t, c)
	room := make([]byte, 4096)
	for i := range 30 {
		for _, d := range []api.Datagram{
			turn(c, 0, 1, int64(6+i), 3+2*i, 3, int64(7+i), int64(9+i)), // new ones
			turn(c, 2, 1, int64(i), 1, 0),
			turn(c, 0, 1, int64(i), 9+9*i, 3),   // refused
			ackOf(c, 2, 1, 1+i%3),               // taken
			turn(c, 0, 1, int64(i), 1, 3, 2, 6), // old
		} {
			good := bytesOf(t, d)
			for j := range room {
				room[j] = byte(j)
			}
			b := room[:copy(room, good)]
			out, e := p.Receive(b)
			out2, e2 := twin.Receive(good)
			if e != e2 || len(out) != len(out2) {
				t.Fatalf("%v %d, meant %v %d", out, e, out2, e2)
			}
			if !bytes.Equal(b, good) {
				t.Fatal("the bytes have changed")
			}
			for j := len(b); j < len(room); j++ {
				if room[j] != byte(j) {
					t.Fatal("the room behind the bytes has changed")
				}
			}
			spoil(room, 0xee)
			if state(p) != state(twin) {
				t.Fatal("what is written into bytes that were handed in is seen in the peer")
			}
			for j := range out {
				if !bytes.Equal(out[j].Bytes, out2[j].Bytes) {
					t.Fatal("what is written into bytes that were handed in is seen in an answer")
				}
			}
		}
		ticks(t, p, 1)
		ticks(t, twin, 1)
	}
}

// TestP22_1Apart: peers beside each other, of one session and of others, know nothing of one another.
func TestP22_1Apart(t *testing.T) {
	c := session(3, 0, 2, 5)
	p, alone := made(t, c, 1), made(t, c, 1)
	third, strange := made(t, c, 1), made(t, session(2, 0, 1), 1)
	start := state(made(t, c, 1))
	for i := range 60 {
		for _, x := range []*peer.Peer{p, alone} {
			if i < 48 {
				lays(t, x, leadOf(x)+3, steer(i))
			}
			x.Receive(bytesOf(t, turn(c, 0, 1, int64(i), 1, 0)))
			x.Tick()
		}
		if i < 20 && state(third) != start {
			t.Fatalf("%d: what one does is seen in another", i)
		}
		strange.Command(say(i%256), leadOf(strange)+1)
		strange.Tick()
		if i >= 20 {
			third.Command(say(i), leadOf(third)+16)
			third.Receive(bytesOf(t, turn(c, 2, 1, int64(i), 1, 0)))
			third.Tick()
		}
		if state(p) != state(alone) {
			t.Fatalf("%d: one is another one beside a third", i)
		}
	}
}

// TestP22_1SideBySide: peers of one session may be called side by side, each by one.
func TestP22_1SideBySide(t *testing.T) {
	c := session(6, 0, 2, 5, 9)
	l := make([]*peer.Peer, 6)
	for seat := range l {
		l[seat] = made(t, c, seat)
	}
	var wait sync.WaitGroup
	for _, p := range l {
		wait.Go(func() {
			for i := range 30 {
				p.Command(steer(i), leadOf(p)+2)
				p.Tick()
			}
		})
	}
	wait.Wait()
	for seat, p := range l {
		twin := made(t, c, seat)
		for i := range 30 {
			twin.Command(steer(i), leadOf(twin)+2)
			twin.Tick()
		}
		if state(p) != state(twin) {
			t.Errorf("seat %d is another one side by side", seat)
		}
	}
}

// TestP22_3LongGame: what is sent in a long game is no more than in a short one, and what the hindmost copy has passed is not kept.
func TestP22_3LongGame(t *testing.T) {
	c := session(2, 0, 2, 5)
	p, q := made(t, c, 0), made(t, c, 1)
	for i := range 1500 {
		lays(t, p, leadOf(p)+1, steer(i))
		lays(t, q, leadOf(q)+16, say(i%256))
		for _, x := range [][2]*peer.Peer{{p, q}, {q, p}} {
			out := ticks(t, x[0], 1)
			if len(out[0].Bytes) > 60 {
				t.Fatalf("round %d: %d bytes", i, len(out[0].Bytes))
			}
			takes(t, x[0], takes(t, x[1], out[0].Bytes, 1)[0].Bytes, 0)
		}
		if p.Kept() > 30 || q.Kept() > 30 {
			t.Fatalf("round %d: %d and %d are kept", i, p.Kept(), q.Kept())
		}
	}
	if !slices.Equal(p.Held(), q.Held()) || len(p.Held()) != 3000 {
		t.Errorf("%d and %d are held", len(p.Held()), len(q.Held()))
	}
	at(t, p, 1500, 1498, 1495)
	for frame := range int64(1496) {
		a, _ := p.Digest(frame)
		if b, is := q.Digest(frame); a != b || !is {
			t.Fatalf("frame %d: %x, %x", frame, a, b)
		}
	}
}
