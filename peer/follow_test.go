package peer_test

import (
	"math/rand"
	"slices"
	"testing"

	"echelon/api"
	"echelon/clone"
	"echelon/peer"
	"echelon/verb"
	"echelon/wire"
)

// without are the commands of a list that are not in another one.
func without(all, missed []api.Command) []api.Command {
	return slices.DeleteFunc(slices.Clone(all), func(c api.Command) bool { return slices.Contains(missed, c) })
}

// followsW1 holds a peer's copies to W1.
func followsW1(t *testing.T, c api.Config, p *peer.Peer) {
	t.Helper()
	f, held := p.Frames(), p.Held()
	for rung, frame := range f {
		missed := p.Missed(rung)
		w, e := p.World(rung)
		if want := ref(t, c, frame, without(held, missed)...); e != api.OK || !clone.Same(w, want) {
			t.Fatalf("W1: at %v, rung %d is not Ref(%d, ..): %v %d, meant %v", f, rung, frame, w, e, want)
		}
		var behind []api.Command // what the rung behind it misses
		if rung < len(f)-1 {
			behind = p.Missed(rung + 1)
		} else if len(missed) > 0 {
			t.Fatalf("W1: at %v, the hindmost rung has missed %v", f, missed)
		}
		if left := without(behind, missed); len(left) > 0 {
			t.Fatalf("W1: at %v, rung %d has missed %v, and the rung ahead of it has not", f, rung+1, left)
		}
		for _, x := range without(missed, behind) {
			if x.Frame <= f[rung+1] || x.Frame > frame {
				t.Fatalf("W1: at %v, rung %d alone has missed %v", f, rung, x)
			}
		}
		if left := without(missed, held); len(left) > 0 {
			t.Fatalf("W1: %v are missed, but not held", left)
		}
	}
}

// follower is a peer whose every call is held to W4, W5, W6 and W8.
type follower struct {
	t     *testing.T
	c     api.Config
	seat  int
	peer  *peer.Peer
	kept  int // the most that were ever
	turns int // the most commands that a Turn had
	steps int // the most of a Tick
}

func follow(t *testing.T, c api.Config, seat int) *follower {
	return &follower{t: t, c: c, seat: seat, peer: made(t, c, seat)}
}

// room holds the peer to W6, and to the first sentence of W4.
func (f *follower) room(sent []api.Parcel) {
	f.t.Helper()
	f.kept = max(f.kept, f.peer.Kept())
	if f.peer.Kept() > f.c.Peers*3*112 {
		f.t.Fatalf("W6: %d are kept", f.peer.Kept())
	}
	for _, x := range sent {
		d, e := wire.Decode(x.Bytes)
		if e != api.OK || d.From != f.seat || x.From != f.seat || x.To != d.To || len(d.Commands) > 336 {
			f.t.Fatalf("W6: %+v %d", d, e)
		}
		f.turns = max(f.turns, len(d.Commands))
	}
	if hindOf(f.peer) > f.peer.Least() {
		f.t.Fatalf("W4: at %v, Least is %d", f.peer.Frames(), f.peer.Least())
	}
}

// still holds a call to run no frame.
func (f *follower) still(call func()) {
	f.t.Helper()
	frames, n := f.peer.Frames(), f.peer.Counters()
	call()
	now := f.peer.Counters()
	if !slices.Equal(f.peer.Frames(), frames) || now.Steps != n.Steps || now.Copies != n.Copies || now.Ticks != n.Ticks {
		f.t.Fatalf("W5: a call that is no Tick has run from %v to %v", frames, f.peer.Frames())
	}
}

func (f *follower) command(o api.Order, frame int64) {
	f.t.Helper()
	here, lead, n, held := 0, leadOf(f.peer), f.peer.Counters(), f.peer.Held()
	for _, x := range held {
		if x.Frame == frame && x.Peer == f.seat {
			here++
		}
	}
	want := verb.Check(o)
	if want == api.OK && (frame < lead+1 || frame > lead+16) {
		want = api.ErrStamp
	} else if want == api.OK && here >= 3 {
		want = api.ErrFull
	}
	f.still(func() {
		f.t.Helper()
		if e := f.peer.Command(o, frame); e != want {
			f.t.Fatalf("W8: Command(%v, %d) at %d with %d there: %d, meant %d", o, frame, lead, here, e, want)
		}
	})
	if want == api.OK {
		n.Accepted++
		held = append(held, command(frame, f.seat, n.Accepted, o))
	}
	if now := f.peer.Held(); f.peer.Counters() != n || len(now) != len(held) || len(without(held, now)) > 0 {
		f.t.Fatalf("W8: Command(%v, %d): %d is answered, and %v are held", o, frame, want, now)
	}
	f.room(nil)
}

func (f *follower) receive(b []byte) []api.Parcel {
	f.t.Helper()
	var out []api.Parcel
	f.still(func() { out, _ = f.peer.Receive(b) })
	f.room(out)
	return out
}

func (f *follower) tick() []api.Parcel {
	f.t.Helper()
	lead, hind, lag := leadOf(f.peer), hindOf(f.peer), int64(f.c.Lags[len(f.c.Lags)-1])
	n := f.peer.Counters().Steps
	out, e := f.peer.Tick()
	f.room(out)
	now, then := leadOf(f.peer), hindOf(f.peer)
	if stall := lead-then == 48; stall != (e == api.ErrStall) || stall && now != lead || !stall && (now != lead+1 || e != api.OK) {
		f.t.Fatalf("W4: Tick from %d, %d to %v: %d", lead, hind, f.peer.Frames(), e)
	}
	if then < min(hind+1, now-lag, f.peer.Least()) || then < hind {
		f.t.Fatalf("W4: Tick from %d, %d to %v, Least %d", lead, hind, f.peer.Frames(), f.peer.Least())
	}
	k, steps, m := len(f.c.Lags), f.peer.Counters().Steps-n, f.peer.Last()
	if steps != m.Steps || steps > k*48+4 || m.Found == 0 && steps > k+3 {
		f.t.Fatalf("W5: %d steps, found by %d, of %d rungs", steps, m.Found, k)
	}
	f.steps = max(f.steps, steps)
	return out
}

// TestP22_7AnyBytes: a single peer, whatever comes, whatever is laid, however it ticks.
func TestP22_7AnyBytes(t *testing.T) {
	r := rand.New(rand.NewSource(2277))
	for game := range 40 {
		c := session(2+r.Intn(5), drawnLags(r)...)
		c.Seed = r.Uint64()
		f := follow(t, c, r.Intn(c.Peers))
		paces := make([]pace, c.Peers)
		slow := drawnPace(r)
		for i := range paces {
			paces[i] = slow
		}
		for range 300 {
			switch n := r.Intn(10); {
			case n < 3:
				f.command(drawnLay(r, leadOf(f.peer)))
			case n < 7:
				f.receive(drawnBytes(t, r, c, f.seat, f.peer.Links(), leadOf(f.peer), paces))
			default:
				f.tick()
			}
			if r.Intn(6) == 0 {
				followsW1(t, c, f.peer)
			}
		}
		followsW1(t, c, f.peer)
		if f.peer.Counters().Refused == 0 || f.peer.Counters().Got == 0 {
			t.Errorf("game %d: %+v", game, f.peer.Counters())
		}
	}
}

// TestP22_7Junk: bytes that nobody has made with care, by themselves and with a right sum.
func TestP22_7Junk(t *testing.T) {
	r := rand.New(rand.NewSource(22777))
	c := session(3, 0, 2, 5)
	f := follow(t, c, 1)
	n := number(c)
	for range 3000 {
		b := make([]byte, r.Intn(40))
		r.Read(b)
		switch r.Intn(3) {
		case 0:
			b = sealed(b...)
		case 1:
			b = raw(byte(1+r.Intn(2)), n, byte(r.Intn(3)), 1, slices.DeleteFunc(b, func(x byte) bool { return x > 40 })...)
		}
		f.receive(b)
		if r.Intn(10) == 0 {
			f.tick()
			f.command(drawnLay(r, leadOf(f.peer)))
		}
	}
	followsW1(t, c, f.peer)
	if m := f.peer.Counters(); m.Got < 20 || m.Refused < 1000 {
		t.Errorf("%+v", m)
	}
}

// TestP22_7Room: as many commands as can be come to a peer, and all of them are kept: no more than W6 says.
func TestP22_7Room(t *testing.T) {
	for _, peers := range []int{2, 6} {
		c := session(peers, 0, 1, 2, 3, 4)
		f := follow(t, c, peers-1)
		fill := func() {
			for frame := leadOf(f.peer) + 1; frame <= leadOf(f.peer)+16; frame++ {
				for range 4 {
					f.command(steer(int(frame)), frame)
				}
			}
		}
		for range 49 {
			fill()
			f.tick()
		}
		// The others lay for all frames up to lead + MaxSpan + MaxStamp, with marks that rise at the end alone.
		var frames []int64
		for frame := int64(1); frame <= 112; frame++ {
			frames = append(frames, frame, frame, frame)
		}
		for from := range peers - 1 {
			f.receive(bytesOf(t, turn(c, from, f.seat, 96, 1, 192, frames...)))
			if got := f.peer.Links()[from]; got.Next != 337 {
				t.Fatalf("%+v", got)
			}
		}
		if want := 3*64 + 3*112*(peers-1); f.peer.Kept() != want {
			t.Errorf("%d are kept, meant %d", f.peer.Kept(), want)
		}
		followsW1(t, c, f.peer)
		for range 4 {
			f.tick()
			fill()
			followsW1(t, c, f.peer)
		}
		if f.steps < 40 {
			t.Errorf("at most %d steps", f.steps)
		}
	}
}

// parcel is one on its way.
type parcel struct {
	to    int
	bytes []byte
}

// net has what is on its way: it loses, doubles and reorders.
type net struct {
	r      *rand.Rand
	flight []parcel
	loses  int // of ten
}

func (n *net) send(l []api.Parcel) {
	for _, x := range l {
		if n.r.Intn(10) >= n.loses {
			n.flight = append(n.flight, parcel{x.To, x.Bytes})
		}
		if n.r.Intn(10) == 0 {
			n.flight = append(n.flight, parcel{x.To, x.Bytes})
		}
	}
}

// take is any one of those on their way.
func (n *net) take() (parcel, bool) {
	if len(n.flight) == 0 {
		return parcel{}, false
	}
	i := n.r.Intn(len(n.flight))
	if n.r.Intn(3) > 0 {
		i = n.r.Intn(min(4, len(n.flight)))
	}
	x := n.flight[i]
	n.flight = slices.Delete(n.flight, i, i+1)
	return x, true
}

// TestP22_7Together: peers that send one another what they answer, over such a net. W1 and the others hold of each; nobody is refused; their hindmost copies agree.
func TestP22_7Together(t *testing.T) {
	r := rand.New(rand.NewSource(2270))
	finds, stalled := 0, 0
	for range 24 {
		c := session(2+r.Intn(5), drawnLags(r)...)
		c.Seed = r.Uint64()
		n := &net{r: r, loses: r.Intn(7)}
		var l []*follower
		for seat := range c.Peers {
			l = append(l, follow(t, c, seat))
		}
		slow, deaf := r.Intn(c.Peers), 1+r.Intn(5)
		for range 150 * c.Peers {
			f := l[r.Intn(c.Peers)]
			switch {
			case r.Intn(4) == 0:
				f.command(drawnLay(r, leadOf(f.peer)))
			case r.Intn(2) == 0 && (f.seat != slow || r.Intn(3) == 0):
				n.send(f.tick())
			case r.Intn(deaf) == 0:
				for range 1 + r.Intn(3) {
					if x, is := n.take(); is {
						n.send(l[x.to].receive(x.bytes))
					}
				}
			}
			if r.Intn(30) == 0 {
				followsW1(t, c, f.peer)
			}
		}
		for _, f := range l {
			followsW1(t, c, f.peer)
			m := f.peer.Counters()
			if m.Refused != 0 {
				t.Fatalf("%+v", m)
			}
			finds += m.Late
			stalled += m.Stalls
		}
		agree(t, c, l)
	}
	if finds < 300 || stalled < 50 {
		t.Errorf("%d commands were found, %d Ticks have stalled", finds, stalled)
	}
}

// agree holds the hindmost copies of all peers to the same sums, of all commands that were laid.
func agree(t *testing.T, c api.Config, l []*follower) {
	t.Helper()
	var laid []api.Command
	for _, f := range l {
		for _, x := range f.peer.Held() {
			if x.Peer == f.seat {
				laid = append(laid, x)
			}
		}
	}
	for _, f := range l {
		for frame := hindOf(f.peer); frame >= 0; frame -= 7 {
			want, _ := clone.Digest(c, ref(t, c, frame, laid...))
			if got, is := f.peer.Digest(frame); got != want || !is {
				t.Fatalf("seat %d, frame %d: %x %t, meant %x", f.seat, frame, got, is, want)
			}
		}
	}
}
