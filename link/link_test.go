package link_test

import (
	"math"
	"slices"
	"testing"

	"echelon/api"
	"echelon/link"
	"echelon/verb"
	"echelon/wire"
)

// The document's numbers, written out once more.
const (
	mostKept = 336
	span     = 48
	stamp    = 16
	lastOne  = int64(1) << 40
)

// edges are numbers at which a reading may go wrong: about 0, about the limits, at the bounds of their type.
var edges = []int64{math.MinInt64, math.MinInt64 + 1, math.MinInt64 + span - 1, math.MinInt64 + span, -lastOne, -1 << 32, -span - 1, -span, -span + 1, -2, -1, 0, 1, 2, span - 1, span, span + 1, 1 << 32, lastOne - 1, lastOne, lastOne + 1, math.MaxInt64 - span, math.MaxInt64 - span + 1, math.MaxInt64 - 1, math.MaxInt64}

// made is a link that may be.
func made(t *testing.T, session uint64, self, other int) *link.Link {
	t.Helper()
	l, e := link.New(session, self, other)
	if l == nil || e != api.OK {
		t.Fatalf("New(%d, %d, %d): %d", session, self, other, e)
	}
	return l
}

// command is one whose order hangs on its number.
func command(frame int64, peer, seq int) api.Command {
	orders := []api.Order{{Verb: api.Halt}, {Verb: api.Steer, A: -8, B: 8}, {Verb: api.Aim, A: 15}, {Verb: api.Say, A: seq & 255}}
	return api.Command{Frame: frame, Peer: peer, Seq: seq, Order: orders[seq&3]}
}

// commands are a peer's on these frames, from this number on.
func commands(peer, first int, frames ...int64) []api.Command {
	var out []api.Command
	for i, f := range frames {
		out = append(out, command(f, peer, first+i))
	}
	return out
}

// turn is one of session 7 from seat 1 to seat 0, with commands on these frames.
func turn(mark int64, first, ack int, frames ...int64) api.Datagram {
	return api.Datagram{Kind: api.Turn, Session: 7, From: 1, To: 0, Mark: mark, First: first, Commands: commands(1, first, frames...), Ack: ack}
}

// ackOf is one of session 7 from seat 1 to seat 0.
func ackOf(n int) api.Datagram {
	return api.Datagram{Kind: api.Ack, Session: 7, From: 1, To: 0, Ack: n}
}

func sameDatagram(c, d api.Datagram) bool {
	return c.Kind == d.Kind && c.Session == d.Session && c.From == d.From && c.To == d.To && c.Mark == d.Mark &&
		c.First == d.First && slices.Equal(c.Commands, d.Commands) && c.Ack == d.Ack
}

// lays lays own commands of a link that has so many behind it, on these frames.
func lays(t *testing.T, l *link.Link, self, own int, frames ...int64) {
	t.Helper()
	for _, c := range commands(self, own+1, frames...) {
		if e := l.Lay(c); e != api.OK {
			t.Fatalf("Lay(%v): %d", c, e)
		}
	}
}

// stands holds a link to stand so.
func stands(t *testing.T, l *link.Link, want api.LinkState) {
	t.Helper()
	if s := l.State(); s != want {
		t.Errorf("State: %+v, meant %+v", s, want)
	}
}

// looks is what a link shows of itself.
type looks struct {
	state api.LinkState
	turn  api.Datagram
	ack   api.Datagram
}

func lookAt(l *link.Link) looks { return looks{l.State(), l.Turn(9), l.Ack()} }

func (a looks) same(b looks) bool {
	return a.state == b.state && sameDatagram(a.turn, b.turn) && sameDatagram(a.ack, b.ack)
}

// noLay holds a link to refuse a command, and to look then as it did.
func noLay(t *testing.T, name string, l *link.Link, c api.Command, want api.Errno) {
	t.Helper()
	ahead := lookAt(l)
	if e := l.Lay(c); e != want {
		t.Errorf("%s: Lay(%v): %d, meant %d", name, c, e, want)
	}
	if !lookAt(l).same(ahead) {
		t.Errorf("%s: Lay(%v), refused, has changed something", name, c)
	}
}

// noTake holds a link to refuse a datagram, and to look then as it did.
func noTake(t *testing.T, name string, l *link.Link, d api.Datagram, lead int64, want api.Errno) {
	t.Helper()
	ahead := lookAt(l)
	if got, brought, e := l.Take(d, lead); len(got) != 0 || brought || e != want {
		t.Errorf("%s: Take(%+v, %d): %v %v %d, meant %d", name, d, lead, got, brought, e, want)
	}
	if !lookAt(l).same(ahead) {
		t.Errorf("%s: Take(%+v, %d), refused, has changed something", name, d, lead)
	}
}

// takes holds a link to take a datagram, with these new commands and this flag.
func takes(t *testing.T, name string, l *link.Link, d api.Datagram, lead int64, fresh []api.Command, brought bool) {
	t.Helper()
	if got, is, e := l.Take(d, lead); e != api.OK || is != brought || !slices.Equal(got, fresh) {
		t.Errorf("%s: Take(%+v, %d): %v %v %d, meant %v %v", name, d, lead, got, is, e, fresh, brought)
	}
}

func TestP18_1Examples(t *testing.T) {
	a, b := made(t, 7, 0, 1), made(t, 7, 1, 0)
	c := command(3, 0, 1)
	lays(t, a, 0, 0, 3)
	noLay(t, "number 3", a, command(3, 0, 3), api.ErrArg)
	d := a.Turn(2)
	if !sameDatagram(d, api.Datagram{Kind: 1, Session: 7, From: 0, To: 1, Mark: 2, First: 1, Commands: []api.Command{c}}) {
		t.Errorf("Turn(2): %+v", d)
	}
	takes(t, "the Turn", b, d, 0, []api.Command{c}, true)
	takes(t, "once more", b, d, 0, nil, false)
	if !sameDatagram(b.Ack(), api.Datagram{Kind: 2, Session: 7, From: 1, To: 0, Ack: 1}) {
		t.Errorf("Ack: %+v", b.Ack())
	}
	takes(t, "the Ack", a, b.Ack(), 0, nil, true)
	if d := a.Turn(3); !sameDatagram(d, api.Datagram{Kind: 1, Session: 7, From: 0, To: 1, Mark: 3, First: 2}) {
		t.Errorf("Turn(3): %+v", d)
	}
	noTake(t, "an Ack of 5", a, ackOf(5), 0, api.ErrBroken)
	noTake(t, "First 3", a, turn(0, 3, 0), 0, api.ErrGap)
	other := turn(0, 1, 0)
	other.Session = 8
	noTake(t, "session 8", a, other, 0, api.ErrStranger)
	third := turn(0, 1, 0)
	third.From = 2
	noTake(t, "from 2", a, third, 0, api.ErrSeat)
	noTake(t, "Mark 49", a, turn(49, 1, 0), 0, api.ErrBroken)
	stands(t, a, api.LinkState{Own: 1, Acked: 1, Next: 1, Met: true})
	stands(t, b, api.LinkState{Next: 2, Mark: 2, Met: true})
}

func TestP18_1New(t *testing.T) {
	seats := []int{math.MinInt, -1 << 32, -2, -1, 0, 1, 2, 3, 4, 5, 6, 7, 1 << 32, 1<<32 + 1, math.MaxInt}
	for _, session := range []uint64{0, 1, 7, 1 << 63, math.MaxUint64} {
		for _, self := range seats {
			for _, other := range seats {
				l, e := link.New(session, self, other)
				if self < 0 || self > 5 || other < 0 || other > 5 || self == other {
					if l != nil || e != api.ErrArg {
						t.Errorf("New(%d, %d, %d): %v %d", session, self, other, l, e)
					}
					continue
				}
				if l == nil || e != api.OK {
					t.Fatalf("New(%d, %d, %d): %d", session, self, other, e)
				}
				stands(t, l, api.LinkState{Next: 1})
				if d := l.Turn(0); !sameDatagram(d, api.Datagram{Kind: 1, Session: session, From: self, To: other, First: 1}) {
					t.Errorf("New(%d, %d, %d): Turn(0) %+v", session, self, other, d)
				}
				if d := l.Ack(); !sameDatagram(d, api.Datagram{Kind: 2, Session: session, From: self, To: other}) {
					t.Errorf("New(%d, %d, %d): Ack %+v", session, self, other, d)
				}
			}
		}
	}
}

// TestP18_1BesideEachOther: links of one session, and of one seat, know nothing of one another.
func TestP18_1BesideEachOther(t *testing.T) {
	a, b := made(t, 7, 0, 1), made(t, 7, 0, 1)
	lays(t, a, 0, 0, 5, 6)
	takes(t, "at one", a, turn(3, 1, 1, 9, 9, 9), 0, commands(1, 1, 9, 9, 9), true)
	stands(t, a, api.LinkState{Own: 2, Acked: 1, Next: 4, Mark: 3, Met: true})
	stands(t, b, api.LinkState{Next: 1})
	takes(t, "at the other one", b, turn(4, 1, 0, 9, 9, 9), 0, commands(1, 1, 9, 9, 9), true)
	lays(t, b, 0, 0, 7)
	stands(t, a, api.LinkState{Own: 2, Acked: 1, Next: 4, Mark: 3, Met: true})
	stands(t, b, api.LinkState{Own: 1, Next: 4, Mark: 4, Met: true})
	if d := a.Turn(1); !sameDatagram(d, api.Datagram{Kind: 1, Session: 7, From: 0, To: 1, Mark: 1, First: 2, Commands: commands(0, 2, 6), Ack: 3}) {
		t.Errorf("Turn: %+v", d)
	}
}

func TestP18_2PeerAndNumber(t *testing.T) {
	for self := range 6 {
		l := made(t, 7, self, (self+1)%6)
		for own := range 5 {
			for peer := -2; peer < 9; peer++ {
				if peer != self {
					noLay(t, "another seat", l, command(4, peer, own+1), api.ErrArg)
				}
			}
			for _, seq := range []int{math.MinInt, -own - 1, -1, 0, own - 1, own, own + 2, own + 3, 1<<32 + own + 1, math.MaxInt} {
				noLay(t, "another number", l, command(4, self, seq), api.ErrArg)
			}
			lays(t, l, self, own, 4)
			stands(t, l, api.LinkState{Own: own + 1, Next: 1})
		}
		if d := l.Turn(0); !slices.Equal(d.Commands, commands(self, 1, 4, 4, 4, 4, 4)) {
			t.Errorf("laid: %v", d.Commands)
		}
	}
}

func TestP18_2Frame(t *testing.T) {
	l := made(t, 7, 2, 0)
	var laid []int64
	for _, f := range edges {
		if f < 1 || f > lastOne {
			noLay(t, "a frame that is none", l, command(f, 2, len(laid)+1), api.ErrArg)
			continue
		}
		lays(t, l, 2, len(laid), f)
		laid = append(laid, f)
	}
	for _, f := range []int64{1, lastOne, 1, 1, 1, 1} { // behind one another or not, however many on a frame
		lays(t, l, 2, len(laid), f)
		laid = append(laid, f)
	}
	if d := l.Turn(0); !slices.Equal(d.Commands, commands(2, 1, laid...)) {
		t.Errorf("laid: %v", d.Commands)
	}
}

func TestP18_2Order(t *testing.T) {
	l := made(t, 7, 0, 1)
	laid := 0
	values := []int{math.MinInt, -9, -8, -1, 0, 1, 2, 3, 4, 8, 9, 15, 16, 255, 256, math.MaxInt}
	for v := -1; v <= 9; v++ {
		for _, a := range values {
			for _, b := range values {
				for _, c := range []int{-1, 0, 1} {
					o := api.Order{Verb: v, A: a, B: b, C: c}
					x := api.Command{Frame: 1, Peer: 0, Seq: laid + 1, Order: o}
					if verb.Check(o) != api.OK {
						noLay(t, "an order that may not be", l, x, api.ErrArg)
						continue
					}
					if e := l.Lay(x); e != api.OK {
						t.Errorf("Lay(%v): %d", x, e)
					}
					laid++
				}
			}
		}
	}
	if laid < 30 {
		t.Errorf("only %d laid", laid)
	}
	stands(t, l, api.LinkState{Own: laid, Next: 1})
}

// TestP18_2Most: 336 may wait; an acknowledgement makes room for as many as it reaches.
func TestP18_2Most(t *testing.T) {
	l := made(t, 7, 0, 1)
	own := 0
	fill := func(n int) {
		t.Helper()
		for range n {
			lays(t, l, 0, own, 5)
			own++
		}
	}
	fill(335)
	stands(t, l, api.LinkState{Own: 335, Next: 1})
	fill(1)
	for range 3 {
		noLay(t, "the 337th", l, command(5, 0, own+1), api.ErrLong)
		noLay(t, "the 337th, of another seat", l, command(5, 1, own+1), api.ErrArg)
		noLay(t, "the 337th, of another number", l, command(5, 0, own), api.ErrArg)
		noLay(t, "the 337th, on no frame", l, command(0, 0, own+1), api.ErrArg)
		noLay(t, "the 337th, of no order", l, api.Command{Frame: 5, Peer: 0, Seq: own + 1}, api.ErrArg)
	}
	takes(t, "none acknowledged", l, ackOf(0), 0, nil, false)
	noLay(t, "still the 337th", l, command(5, 0, own+1), api.ErrLong)
	for _, n := range []int{1, 1, 2, 17, 335, 336} {
		takes(t, "some acknowledged", l, ackOf(own-mostKept+n), 0, nil, true)
		fill(n)
		noLay(t, "full again", l, command(5, 0, own+1), api.ErrLong)
		d := l.Turn(1)
		if len(d.Commands) != mostKept || d.First != own-mostKept+1 || wire.Check(d) != api.OK {
			t.Errorf("%d commands from %d on", len(d.Commands), d.First)
		}
		if !slices.Equal(d.Commands, commands(0, d.First, slices.Repeat([]int64{5}, mostKept)...)) {
			t.Errorf("other commands than those that were laid")
		}
	}
}

// TestP18_3Marks: a mark below 0 is 0, one above MaxFrame is MaxFrame; whatever was laid and came, both datagrams may be, and change nothing.
func TestP18_3Marks(t *testing.T) {
	l := made(t, 1<<63+5, 3, 5)
	from5 := func(d api.Datagram) api.Datagram {
		d.Session, d.From, d.To = 1<<63+5, 5, 3
		for i := range d.Commands {
			d.Commands[i].Peer = 5
		}
		return d
	}
	look := func(name string, first, ack int, frames ...int64) {
		t.Helper()
		ahead := l.State()
		for _, mark := range edges {
			want := api.Datagram{Kind: 1, Session: 1<<63 + 5, From: 3, To: 5, Mark: min(max(mark, 0), lastOne), First: first, Commands: commands(3, first, frames...), Ack: ack}
			if d := l.Turn(mark); !sameDatagram(d, want) || wire.Check(d) != api.OK {
				t.Errorf("%s: Turn(%d): %+v, meant %+v", name, mark, d, want)
			}
			if d := l.Ack(); !sameDatagram(d, api.Datagram{Kind: 2, Session: 1<<63 + 5, From: 3, To: 5, Ack: ack}) || wire.Check(d) != api.OK {
				t.Errorf("%s: Ack: %+v", name, d)
			}
		}
		stands(t, l, ahead)
	}
	look("nothing", 1, 0)
	lays(t, l, 3, 0, 1, lastOne, 7)
	look("laid", 1, 0, 1, lastOne, 7)
	takes(t, "two acknowledged", l, from5(ackOf(2)), 0, nil, true)
	look("acknowledged", 3, 0, 7)
	takes(t, "three have come", l, from5(turn(4, 1, 2, 5, 5, 6)), 0, from5(turn(0, 1, 0, 5, 5, 6)).Commands, true)
	look("come", 3, 3, 7)
	takes(t, "all acknowledged", l, from5(ackOf(3)), 0, nil, true)
	look("none left", 4, 3)
	lays(t, l, 3, 3, 2, 1)
	look("laid again", 4, 3, 2, 1)
}

// TestP18_6State: each part of it, moved alone.
func TestP18_6State(t *testing.T) {
	l := made(t, 7, 0, 1)
	stands(t, l, api.LinkState{Next: 1})
	takes(t, "nothing in it", l, ackOf(0), 0, nil, false)
	stands(t, l, api.LinkState{Next: 1, Met: true})
	lays(t, l, 0, 0, 9, 9)
	stands(t, l, api.LinkState{Own: 2, Next: 1, Met: true})
	takes(t, "an acknowledgement", l, ackOf(1), 0, nil, true)
	stands(t, l, api.LinkState{Own: 2, Acked: 1, Next: 1, Met: true})
	takes(t, "a mark", l, turn(8, 1, 1), 0, nil, true)
	stands(t, l, api.LinkState{Own: 2, Acked: 1, Next: 1, Mark: 8, Met: true})
	takes(t, "commands", l, turn(8, 1, 1, 9, 10), 0, commands(1, 1, 9, 10), true)
	stands(t, l, api.LinkState{Own: 2, Acked: 1, Next: 3, Mark: 8, Met: true})
}

// TestP18_6NotMet: what is refused, and what is laid and made, is no meeting.
func TestP18_6NotMet(t *testing.T) {
	l := made(t, 7, 0, 1)
	lays(t, l, 0, 0, 1)
	l.Turn(3)
	l.Ack()
	noTake(t, "no datagram", l, api.Datagram{}, 0, api.ErrWireData)
	noTake(t, "a gap", l, turn(0, 2, 0), 0, api.ErrGap)
	noTake(t, "too great", l, ackOf(2), 0, api.ErrBroken)
	stands(t, l, api.LinkState{Own: 1, Next: 1})
	takes(t, "an old Turn", l, turn(0, 1, 0), 0, nil, false)
	stands(t, l, api.LinkState{Own: 1, Next: 1, Met: true})
}
