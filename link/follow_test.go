package link_test

import (
	"math/rand"
	"slices"
	"testing"

	"echelon/api"
	"echelon/link"
)

// side is one of two peers that look at one another. It keeps to what P18.7 asks of it: what it lays is above its marks, up to MaxStamp above the last one, at most MaxPerFrame on a frame; its marks do not fall. Its lead is its mark.
type side struct {
	link  *link.Link
	seat  int
	mark  int64
	laid  []api.Command
	taken []api.Command // of the other one
	sent  []api.Datagram
}

func newSides(t *testing.T) [2]*side {
	t.Helper()
	return [2]*side{{link: made(t, 7, 3, 1), seat: 3}, {link: made(t, 7, 1, 3), seat: 1}}
}

// lay lays a command so far above the mark, if the rules let it.
func (s *side) lay(t *testing.T, over int64) {
	t.Helper()
	c := command(s.mark+over, s.seat, len(s.laid)+1)
	here := 0
	for _, x := range s.laid {
		if x.Frame == c.Frame {
			here++
		}
	}
	if here == 3 || s.link.State().Own-s.link.State().Acked == mostKept {
		return
	}
	if e := s.link.Lay(c); e != api.OK {
		t.Fatalf("Lay(%v): %d", c, e)
	}
	s.laid = append(s.laid, c)
}

// turn raises the mark to this one, if it is greater, and sends a Turn with it.
func (s *side) turn(mark int64) {
	s.mark = max(s.mark, mark)
	s.sent = append(s.sent, s.link.Turn(s.mark))
}

// take takes a datagram of the other one, which may not be refused; what brought something is answered.
func (s *side) take(t *testing.T, other *side, d api.Datagram) {
	t.Helper()
	ahead := s.link.State()
	fresh, brought, e := s.link.Take(d, s.mark)
	if e != api.OK {
		t.Fatalf("Take(%+v, %d) at %+v: %d", d, s.mark, ahead, e)
	}
	s.taken = append(s.taken, fresh...)
	if len(s.taken) > len(other.laid) || !slices.Equal(s.taken, other.laid[:len(s.taken)]) {
		t.Fatalf("taken: %v, of %v", s.taken, other.laid)
	}
	now := s.link.State()
	if brought != (now.Next > ahead.Next || now.Mark > ahead.Mark || now.Acked > ahead.Acked) || now.Next < ahead.Next || now.Mark < ahead.Mark || now.Acked < ahead.Acked {
		t.Fatalf("%v, from %+v to %+v", brought, ahead, now)
	}
	if brought && d.Kind == api.Turn {
		s.sent = append(s.sent, s.link.Ack())
	}
}

// takeAny takes one of all that the other one has ever sent: what is taken twice was doubled, what never is was lost, what is taken behind others came late.
func (s *side) takeAny(t *testing.T, r *rand.Rand, other *side) {
	t.Helper()
	if n := len(other.sent); n > 0 {
		back := 1 + r.Intn(n)
		if r.Intn(3) > 0 {
			back = 1 + r.Intn(min(n, 6))
		}
		s.take(t, other, other.sent[n-back])
	}
}

// end sends a last Turn each way: behind it each has all commands of the other one, and nothing that comes then brings any more of them.
func end(t *testing.T, sides [2]*side) {
	t.Helper()
	for i, s := range sides {
		other := sides[1-i]
		s.turn(0)
		other.take(t, s, s.sent[len(s.sent)-1])
		if len(other.taken) != len(s.laid) {
			t.Fatalf("%d of %d have come", len(other.taken), len(s.laid))
		}
	}
	for i, s := range sides {
		for _, d := range slices.Clone(s.sent) {
			sides[1-i].take(t, s, d)
		}
		if st := s.link.State(); st.Own != len(s.laid) || st.Next != len(sides[1-i].laid)+1 || st.Mark != sides[1-i].mark {
			t.Fatalf("in the end: %+v", st)
		}
	}
}

// TestP18_7BothLay: two peers, each of which keeps its mark within MaxSpan of the greatest one that it has of the other.
func TestP18_7BothLay(t *testing.T) {
	r := rand.New(rand.NewSource(187))
	most, ahead := 0, int64(0)
	for range 150 {
		sides := newSides(t)
		pace, deaf := 1+r.Int63n(60), 1+r.Intn(12)
		for range 400 {
			i := r.Intn(2)
			s, other := sides[i], sides[1-i]
			switch r.Intn(4) {
			case 0:
				for range r.Intn(4) {
					s.lay(t, 1+r.Int63n(stamp))
				}
			case 1:
				s.turn(min(s.mark+r.Int63n(pace+1), s.link.State().Mark+span))
			default:
				if r.Intn(deaf) == 0 {
					s.takeAny(t, r, other)
				}
			}
			most = max(most, s.link.State().Own-s.link.State().Acked)
			ahead = max(ahead, s.mark-other.mark)
		}
		end(t, sides)
	}
	if most < 50 || ahead != span {
		t.Errorf("at most %d unacknowledged, %d ahead", most, ahead)
	}
}

// TestP18_7OneLays: the other one lays nothing; then the mark may be up to MaxSpan ahead of its lead, whatever is known of that.
func TestP18_7OneLays(t *testing.T) {
	r := rand.New(rand.NewSource(778))
	for range 150 {
		sides := newSides(t)
		s, other := sides[0], sides[1]
		pace, deaf := 1+r.Int63n(60), 1+r.Intn(12)
		for range 400 {
			switch r.Intn(5) {
			case 0:
				for range r.Intn(4) {
					s.lay(t, 1+r.Int63n(stamp))
				}
			case 1:
				s.turn(min(s.mark+r.Int63n(pace+1), other.mark+span))
			case 2:
				other.turn(min(other.mark+r.Int63n(pace+1), s.mark+span))
			case 3:
				if r.Intn(deaf) == 0 {
					other.takeAny(t, r, s)
				}
			default:
				// Its Turns, and its answers, tell the other way what came; marks of it are no matter here, so they may leave what s has laid behind.
				if n := len(other.sent); r.Intn(deaf) == 0 && n > 0 {
					s.link.Take(other.sent[r.Intn(n)], s.mark)
				}
			}
		}
		s.turn(0)
		other.take(t, s, s.sent[len(s.sent)-1])
		if len(other.taken) != len(s.laid) {
			t.Fatalf("%d of %d have come", len(other.taken), len(s.laid))
		}
	}
}

// TestP18_7EveryOrder: four Turns of which every choice of up to six comes, in every order; then the last one.
func TestP18_7EveryOrder(t *testing.T) {
	sides := newSides(t)
	s := sides[0]
	s.lay(t, 1)
	s.lay(t, 16)
	s.turn(0)
	s.lay(t, 16)
	s.turn(20)
	s.lay(t, 1)
	s.turn(21)
	s.turn(47)
	s.lay(t, 2)
	s.lay(t, 2)
	s.lay(t, 2)
	s.turn(48)
	d := s.sent
	for which := range 1 << 12 {
		other := &side{link: made(t, 7, 1, 3), seat: 1}
		for i := range 6 {
			other.take(t, s, d[which>>(2*i)&3])
		}
		other.take(t, s, d[4])
		if !slices.Equal(other.taken, s.laid) {
			t.Fatalf("%v, of %v", other.taken, s.laid)
		}
		for i := range 5 {
			other.take(t, s, d[i])
		}
		if len(other.taken) != len(s.laid) {
			t.Fatalf("%d taken, of %d", len(other.taken), len(s.laid))
		}
	}
}

// TestP18_7Whoever: what is asked of an honest peer is needed, each part of it: who leaves one out is refused.
func TestP18_7Whoever(t *testing.T) {
	for _, c := range []struct {
		name string
		do   func(s, other *side)
	}{
		{"lays at its mark", func(s, other *side) {
			s.turn(5)
			other.take(t, s, s.sent[0])
			s.link.Lay(command(5, 3, 1))
			s.turn(5)
		}},
		{"lays too far ahead", func(s, other *side) { s.link.Lay(command(17, 3, 1)); s.turn(0) }},
		{"lays four on a frame", func(s, other *side) {
			for i := range 4 {
				s.link.Lay(command(7, 3, i+1))
			}
			s.turn(0)
		}},
		{"is too far ahead", func(s, other *side) { s.turn(49) }},
		{"is too far ahead of a command that it has not", func(s, other *side) {
			other.lay(t, 1)
			other.mark = 20
			s.turn(49)
		}},
	} {
		sides := newSides(t)
		s, other := sides[0], sides[1]
		c.do(s, other)
		noTake(t, c.name, other.link, s.sent[len(s.sent)-1], other.mark, api.ErrBroken)
	}
}
