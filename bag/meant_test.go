package bag_test

import (
	"math/rand"
	"slices"
	"testing"

	"echelon/api"
	"echelon/bag"
)

// meant is the chapter read a second time, by other means: a list of all parcels that ever were, at the places of their numbers, and of how each fared.
type meant struct {
	all  []api.Parcel
	gone []bool
}

func (m *meant) send(from, to int, text string) int {
	m.all = append(m.all, parcel(len(m.all)+1, from, to, text))
	m.gone = append(m.gone, false)
	return len(m.all)
}

func (m *meant) there(no int) bool { return no >= 1 && no <= len(m.all) && !m.gone[no-1] }

func (m *meant) deliver(no int) (api.Parcel, api.Errno) {
	if !m.there(no) {
		return api.Parcel{}, 170
	}
	m.gone[no-1] = true
	return m.all[no-1], 0
}

func (m *meant) drop(no int) api.Errno {
	_, e := m.deliver(no)
	return e
}

func (m *meant) double(no int) (int, api.Errno) {
	if !m.there(no) {
		return 0, 170
	}
	p := m.all[no-1]
	return m.send(p.From, p.To, string(p.Bytes)), 0
}

func (m *meant) flight() []api.Parcel {
	var out []api.Parcel
	for i, p := range m.all {
		if !m.gone[i] {
			out = append(out, p)
		}
	}
	return out
}

// drawnNo is a number that was given, mostly; else one near to these, or an edge.
func drawnNo(r *rand.Rand, m *meant) int {
	if r.Intn(8) == 0 {
		return edges[r.Intn(len(edges))]
	}
	return r.Intn(len(m.all)+3) - 1
}

func drawnBytes(r *rand.Rand) []byte {
	b := make([]byte, r.Intn(12)*r.Intn(2))
	r.Read(b)
	return b
}

// act does one thing, drawn by r, to both, and holds the answers against each other. What is handed in and what is answered is written over then.
func act(t *testing.T, r *rand.Rand, b *bag.Bag, m *meant) {
	t.Helper()
	no := drawnNo(r, m)
	switch r.Intn(8) {
	default:
		from, to, data := edges[r.Intn(len(edges))], r.Intn(6), drawnBytes(r)
		text := string(data)
		if n, n2 := b.Send(from, to, data), m.send(from, to, text); n != n2 || string(data) != text {
			t.Fatalf("Send(%d, %d, %q): %d, meant %d; handed in then: %q", from, to, text, n, n2, data)
		}
		spoil(data)
	case 0, 1:
		p, e := b.Deliver(no)
		if p2, e2 := m.deliver(no); !same(p, p2) || e != e2 {
			t.Fatalf("Deliver(%d): %v %d, meant %v %d", no, p, e, p2, e2)
		}
		spoil(p.Bytes)
	case 2:
		if e, e2 := b.Drop(no), m.drop(no); e != e2 {
			t.Fatalf("Drop(%d): %d, meant %d", no, e, e2)
		}
	case 3, 4:
		n, e := b.Double(no)
		if n2, e2 := m.double(no); n != n2 || e != e2 {
			t.Fatalf("Double(%d): %d %d, meant %d %d", no, n, e, n2, e2)
		}
	}
}

// agree holds a bag against what is meant, by what changes neither.
func agree(t *testing.T, b *bag.Bag, m *meant) {
	t.Helper()
	l, l2 := b.Flight(), m.flight()
	if !slices.EqualFunc(l, l2, same) {
		t.Fatalf("Flight: %v, meant %v", l, l2)
	}
	if n := b.Len(); n != len(l2) {
		t.Fatalf("Len: %d, meant %d", n, len(l2))
	}
	spoilAll(l)
}

func TestP17_1To4AsMeant(t *testing.T) {
	r := rand.New(rand.NewSource(17))
	for range 300 {
		b, m := bag.New(), &meant{}
		for range 80 {
			act(t, r, b, m)
			agree(t, b, m)
		}
	}
}

func TestP17_1To4ManyBagsAsMeant(t *testing.T) {
	r := rand.New(rand.NewSource(174))
	for range 40 {
		var bags []*bag.Bag
		var ms []*meant
		for range 4 {
			bags, ms = append(bags, bag.New()), append(ms, &meant{})
		}
		for range 120 {
			i := r.Intn(len(bags))
			act(t, r, bags[i], ms[i])
			for j := range bags {
				agree(t, bags[j], ms[j])
			}
		}
	}
}

// TestP17_4TheSameCallsTellTheSame: no answer hangs on how a map is gone through.
func TestP17_4TheSameCallsTellTheSame(t *testing.T) {
	play := func() *bag.Bag {
		r := rand.New(rand.NewSource(1744))
		b, m := bag.New(), &meant{}
		for range 400 {
			act(t, r, b, m)
		}
		return b
	}
	want := play().Flight()
	for range 20 {
		has(t, play(), want...)
	}
}
