package link_test

import (
	"math/big"
	"math/rand"
	"slices"
	"testing"

	"echelon/api"
	"echelon/link"
	"echelon/verb"
	"echelon/wire"
)

// meant is the chapter read a second time, by other means: it keeps all commands that ever were laid or came, and counts among them whenever it is asked.
type meant struct {
	session     uint64
	self, other int
	laid        []api.Command
	came        []api.Command
	acked       int
	mark        int64
	met         bool
}

func (m *meant) state() api.LinkState {
	return api.LinkState{Own: len(m.laid), Acked: m.acked, Next: len(m.came) + 1, Mark: m.mark, Met: m.met}
}

func (m *meant) lay(c api.Command) api.Errno {
	if c.Peer != m.self || c.Seq != len(m.laid)+1 || c.Frame < 1 || c.Frame > 1<<40 || verb.Check(c.Order) != 0 {
		return 1
	}
	if len(m.laid)-m.acked == 336 {
		return 2
	}
	m.laid = append(m.laid, c)
	return 0
}

func (m *meant) turn(mark int64) api.Datagram {
	if mark < 0 {
		mark = 0
	}
	if mark > 1<<40 {
		mark = 1 << 40
	}
	return api.Datagram{Kind: 1, Session: m.session, From: m.self, To: m.other, Mark: mark, First: m.acked + 1, Commands: m.laid[m.acked:], Ack: len(m.came)}
}

func (m *meant) ack() api.Datagram {
	return api.Datagram{Kind: 2, Session: m.session, From: m.self, To: m.other, Ack: len(m.came)}
}

// above tells whether a is above b and more, without bounds.
func above(a, b, more int64) bool {
	return big.NewInt(a).Cmp(new(big.Int).Add(big.NewInt(b), big.NewInt(more))) > 0
}

// grounds are the grounds on which a Turn is broken, each by a letter, "" if it is not. Its Ack is at most own.
func (m *meant) grounds(d api.Datagram, lead int64) string {
	out := ""
	add := func(sign string, is bool) {
		if is {
			out += sign
		}
	}
	add("l", above(d.Mark, lead, 48))
	for _, c := range m.laid {
		add("o", c.Seq > m.acked && c.Seq > d.Ack && !above(c.Frame, d.Mark, -48))
	}
	ahead := slices.Clone(m.came)
	for _, c := range d.Commands {
		if c.Seq <= len(m.came) {
			continue
		}
		ahead = append(ahead, c)
		here := 0
		for _, x := range ahead {
			if x.Frame == c.Frame {
				here++
			}
		}
		add("m", c.Frame <= m.mark)
		add("s", above(c.Frame, d.Mark, 16))
		add("f", here >= 4)
	}
	return out
}

func (m *meant) take(d api.Datagram, lead int64) ([]api.Command, bool, api.Errno) {
	switch {
	case wire.Check(d) != 0:
		return nil, false, 162
	case d.Session != m.session:
		return nil, false, 180
	case d.From != m.other || d.To != m.self:
		return nil, false, 181
	case d.Kind == 1 && d.First > len(m.came)+1:
		return nil, false, 182
	case d.Ack > len(m.laid), d.Kind == 1 && m.grounds(d, lead) != "":
		return nil, false, 183
	}
	was := m.state()
	m.met = true
	if d.Ack > m.acked {
		m.acked = d.Ack
	}
	var fresh []api.Command
	for _, c := range d.Commands {
		if c.Seq == len(m.came)+1 {
			m.came = append(m.came, c)
			fresh = append(fresh, c)
		}
	}
	if d.Kind == 1 && d.Mark > m.mark {
		m.mark = d.Mark
	}
	now := m.state()
	return fresh, now.Next > was.Next || now.Mark > was.Mark || now.Acked > was.Acked, 0
}

// near is a number about n, seldom one of the edges.
func near(r *rand.Rand, n int64, below, over int64) int64 {
	if r.Intn(40) == 0 {
		return edges[r.Intn(len(edges))]
	}
	return n - below + r.Int63n(below+over+1)
}

func drawnOrder(r *rand.Rand) api.Order {
	if r.Intn(60) == 0 {
		return api.Order{Verb: r.Intn(9), A: r.Intn(20) - 4, B: r.Intn(3)}
	}
	return api.Order{Verb: api.Say, A: r.Intn(256)}
}

// drawnTurn is one that might come to a link, mostly one that is taken, or is refused by little.
func drawnTurn(r *rand.Rand, m *meant, lead int64) api.Datagram {
	d := api.Datagram{Kind: 1, Session: m.session, From: m.other, To: m.self}
	d.First = max(1, len(m.came)+1-r.Intn(5))
	if r.Intn(30) == 0 {
		d.First = int(near(r, int64(len(m.came)+2), 0, 2))
	}
	d.Mark = near(r, m.mark, 3, 4)
	if r.Intn(12) == 0 {
		d.Mark = near(r, lead+48, 2, 1)
	}
	if r.Intn(12) == 0 && m.acked < len(m.laid) {
		d.Mark = near(r, m.laid[m.acked+r.Intn(len(m.laid)-m.acked)].Frame+48, 2, 2)
	}
	for i := range r.Intn(9) {
		c := api.Command{Peer: m.other, Seq: d.First + i, Order: drawnOrder(r)}
		c.Frame = max(m.mark, d.Mark) + 1 + int64(r.Intn(3+4*r.Intn(4)))
		if r.Intn(20) == 0 {
			c.Frame = near(r, []int64{m.mark, d.Mark + 16}[r.Intn(2)], 1, 1)
		}
		if r.Intn(200) == 0 {
			c.Peer, c.Seq = r.Intn(6), c.Seq+r.Intn(3)-1
		}
		d.Commands = append(d.Commands, c)
	}
	return d
}

func drawnDatagram(r *rand.Rand, m *meant, lead int64) api.Datagram {
	d := api.Datagram{Kind: 2, Session: m.session, From: m.other, To: m.self}
	if r.Intn(5) > 0 {
		d = drawnTurn(r, m, lead)
	}
	d.Ack = m.acked + r.Intn(len(m.laid)-m.acked+1)
	if r.Intn(6) == 0 {
		d.Ack = r.Intn(len(m.laid) + 3)
	}
	switch r.Intn(60) {
	case 0:
		d.Session++
	case 1:
		d = seats(d, r.Intn(7), r.Intn(7))
	case 2:
		d.Kind = r.Intn(4)
	case 3:
		d.Ack = int(near(r, 0, 2, 2))
	}
	return d
}

// tally counts how often each thing was seen.
type tally map[string]int

// layOne lays a command, drawn by r, at both.
func layOne(t *testing.T, r *rand.Rand, l *link.Link, m *meant, lead int64, seen tally) {
	t.Helper()
	c := api.Command{Frame: near(r, lead+8, 7, 8), Peer: m.self, Seq: len(m.laid) + 1, Order: drawnOrder(r)}
	if r.Intn(15) == 0 {
		c.Peer = r.Intn(6)
	}
	if r.Intn(15) == 0 {
		c.Seq += r.Intn(5) - 2
	}
	e, e2 := l.Lay(c), m.lay(c)
	if e != e2 {
		t.Fatalf("Lay(%v): %d, meant %d", c, e, e2)
	}
	seen["lay "+string(rune('0'+e2))]++
}

// takeOne takes a datagram, drawn by r, at both.
func takeOne(t *testing.T, r *rand.Rand, l *link.Link, m *meant, lead int64, seen tally) {
	t.Helper()
	d := drawnDatagram(r, m, lead)
	kept := unlike(d, func(*api.Datagram) {})
	why := ""
	if wire.Check(d) == 0 && d.Kind == 1 && d.Ack <= len(m.laid) {
		why = m.grounds(d, lead)
	}
	fresh, brought, e := l.Take(d, lead)
	fresh2, brought2, e2 := m.take(kept, lead)
	if !slices.Equal(fresh, fresh2) || brought != brought2 || e != e2 {
		t.Fatalf("Take(%+v, %d) at %+v: %v %v %d, meant %v %v %d", kept, lead, m.state(), fresh, brought, e, fresh2, brought2, e2)
	}
	if !sameDatagram(d, kept) {
		t.Fatalf("Take has changed what it was handed: %+v, was %+v", d, kept)
	}
	spoil(d.Commands)
	spoil(fresh)
	told := map[api.Errno]string{0: "ok", 162: "data", 180: "stranger", 181: "seat", 182: "gap", 183: "broken"}[e2]
	if e2 == 0 && brought2 {
		told = "ok, brought"
	}
	if e2 == 183 && len(why) == 1 { // one ground alone
		told += " " + why
	}
	seen[told]++
}

// agrees holds what a link shows against what is meant; what it answers is written over then.
func agrees(t *testing.T, r *rand.Rand, l *link.Link, m *meant) {
	t.Helper()
	mark := near(r, m.mark, 60, 60)
	if d, d2 := l.Turn(mark), m.turn(mark); !sameDatagram(d, d2) || wire.Check(d) != 0 {
		t.Fatalf("Turn(%d): %+v, meant %+v", mark, d, d2)
	} else {
		spoil(d.Commands)
	}
	if d, d2 := l.Ack(), m.ack(); !sameDatagram(d, d2) || wire.Check(d) != 0 {
		t.Fatalf("Ack: %+v, meant %+v", d, d2)
	}
	stands(t, l, m.state())
}

// TestP18_4Meant plays at random, and holds every answer against what is meant. Each ground to refuse must have been the only one, often enough.
func TestP18_4Meant(t *testing.T) {
	r := rand.New(rand.NewSource(184))
	seen := tally{}
	for range 400 {
		self := r.Intn(6)
		m := &meant{session: uint64(r.Intn(3)), self: self, other: (self + 1 + r.Intn(5)) % 6}
		l := made(t, m.session, m.self, m.other)
		lead := int64(r.Intn(30))
		for range 150 {
			switch n := r.Intn(10); {
			case n < 3:
				layOne(t, r, l, m, lead, seen)
			case n < 9:
				at := lead
				if r.Intn(30) == 0 {
					at = edges[r.Intn(len(edges))]
				}
				takeOne(t, r, l, m, at, seen)
			default:
				lead += int64(r.Intn(4))
			}
			agrees(t, r, l, m)
		}
	}
	for _, x := range []string{"lay 0", "lay 1", "ok", "ok, brought", "data", "stranger", "seat", "gap", "broken", "broken l", "broken o", "broken m", "broken s", "broken f"} {
		if seen[x] < 50 {
			t.Errorf("%q was seen %d times", x, seen[x])
		}
	}
}

// TestP18_2MeantFull plays where nearly all room is taken.
func TestP18_2MeantFull(t *testing.T) {
	r := rand.New(rand.NewSource(182))
	seen := tally{}
	for range 12 {
		m := &meant{session: 9, self: 4, other: 2}
		l := made(t, 9, 4, 2)
		for range 1500 {
			if r.Intn(12) > 0 {
				layOne(t, r, l, m, 20, seen)
			} else if r.Intn(50) == 0 {
				takeOne(t, r, l, m, 20, seen)
			} else {
				d := api.Datagram{Kind: 2, Session: 9, From: 2, To: 4, Ack: min(m.acked+r.Intn(13), len(m.laid))}
				_, brought, e := l.Take(d, 0)
				if _, brought2, e2 := m.take(d, 0); brought != brought2 || e != e2 {
					t.Fatalf("Take(%+v): %v %d, meant %v %d", d, brought, e, brought2, e2)
				}
			}
			stands(t, l, m.state())
		}
		agrees(t, r, l, m)
	}
	if seen["lay 2"] < 100 || seen["lay 0"] < 100 {
		t.Errorf("%v", seen)
	}
}
