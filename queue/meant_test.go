package queue_test

import (
	"math/rand"
	"slices"
	"testing"

	"echelon/api"
	"echelon/queue"
)

// meant is the chapter read a second time, by other means: a list in the order in which its entries were put in, out of which the least one is looked for anew each time.
type meant struct{ list []api.Entry }

func (m *meant) push(e api.Entry) api.Errno {
	for _, other := range m.list {
		if keyOf(other) == keyOf(e) {
			return 151
		}
	}
	if len(m.list) == 4096 {
		return 150
	}
	m.list = append(m.list, e)
	return 0
}

// least is the place of the entry that none is ahead of, or -1.
func (m *meant) least() int {
	best := -1
	for i, e := range m.list {
		if best < 0 || ahead(e, m.list[best]) {
			best = i
		}
	}
	return best
}

func (m *meant) peek() (api.Entry, bool) {
	i := m.least()
	if i < 0 {
		return api.Entry{}, false
	}
	return m.list[i], true
}

func (m *meant) pop() (api.Entry, bool) {
	e, is := m.peek()
	if is {
		m.list = slices.Delete(m.list, m.least(), m.least()+1)
	}
	return e, is
}

func (m *meant) below(frame int64) []api.Entry {
	var out []api.Entry
	for {
		e, is := m.peek()
		if !is || e.Command.Frame > frame {
			return out
		}
		out = append(out, e)
		m.pop()
	}
}

func (m *meant) clone() *meant { return &meant{list: slices.Clone(m.list)} }

func (m *meant) all() []api.Entry {
	other := m.clone()
	var out []api.Entry
	for e, is := other.pop(); is; e, is = other.pop() {
		out = append(out, e)
	}
	return out
}

type key struct {
	frame int64
	seat  int
	no    int
}

func keyOf(e api.Entry) key { return key{e.Command.Frame, e.Command.Peer, e.Command.Seq} }

func ahead(a, b api.Entry) bool {
	k, o := keyOf(a), keyOf(b)
	if k.frame != o.frame {
		return k.frame < o.frame
	}
	if k.seat != o.seat {
		return k.seat < o.seat
	}
	return k.no < o.no
}

// agree holds a queue against what is meant, by what changes neither.
func agree(t *testing.T, q *queue.Queue, m *meant) {
	t.Helper()
	e, is := q.Peek()
	if e2, is2 := m.peek(); e != e2 || is != is2 {
		t.Fatalf("Peek: %v %v, meant %v %v", e, is, e2, is2)
	}
	if l, l2 := q.All(), m.all(); !slices.Equal(l, l2) {
		t.Fatalf("All: %v, meant %v", l, l2)
	}
	if n := q.Len(); n != len(m.list) {
		t.Fatalf("Len: %d, meant %d", n, len(m.list))
	}
}

// drawn is an entry whose key comes out of few ones, often: so keys meet.
func drawn(r *rand.Rand, few int) api.Entry {
	pick := func() int {
		if r.Intn(16) == 0 {
			return edges[r.Intn(len(edges))]
		}
		return r.Intn(few) - few/2
	}
	e := at(int64(pick()), pick(), pick())
	e.Command.Order = api.Order{Verb: pick(), A: pick(), B: pick(), C: pick()}
	e.Missed = pick()
	return e
}

// act does one thing, drawn by r, to both, and holds the answers against each other.
func act(t *testing.T, r *rand.Rand, few int, q *queue.Queue, m *meant) {
	t.Helper()
	switch r.Intn(9) {
	default:
		e := drawn(r, few)
		if n, n2 := q.Push(e), m.push(e); n != n2 {
			t.Fatalf("Push(%v): %d, meant %d", e, n, n2)
		}
	case 0, 1:
		e, is := q.Pop()
		if e2, is2 := m.pop(); e != e2 || is != is2 {
			t.Fatalf("Pop: %v %v, meant %v %v", e, is, e2, is2)
		}
	case 2:
		frame := drawn(r, few).Command.Frame
		if r.Intn(3) > 0 {
			frame = int64(-few/2) + int64(r.Intn(2))
		}
		if l, l2 := q.Below(frame), m.below(frame); !slices.Equal(l, l2) {
			t.Fatalf("Below(%d): %v, meant %v", frame, l, l2)
		}
	}
}

func TestP15_1To4AsMeant(t *testing.T) {
	r := rand.New(rand.NewSource(15))
	for range 300 {
		q, m, few := queue.New(), &meant{}, 2+r.Intn(8)
		for range 60 {
			act(t, r, few, q, m)
			agree(t, q, m)
		}
	}
}

func TestP15_4ClonesAsMeant(t *testing.T) {
	r := rand.New(rand.NewSource(154))
	for range 60 {
		few := 2 + r.Intn(6)
		qs, ms := []*queue.Queue{queue.New()}, []*meant{{}}
		for range 80 {
			i := r.Intn(len(qs))
			if len(qs) < 5 && r.Intn(8) == 0 {
				qs, ms = append(qs, qs[i].Clone()), append(ms, ms[i].clone())
			}
			act(t, r, few, qs[i], ms[i])
			for j := range qs {
				agree(t, qs[j], ms[j])
			}
		}
	}
}
