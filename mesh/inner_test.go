package mesh

import (
	"fmt"
	"runtime"
	"testing"

	"echelon/api"
	"echelon/arena"
)

// Behind a whole quiet round its parcels have arrived: in which order they were numbered is seen ahead of that alone.

// laden is a mesh of six on which a round's first Ticks take long on some seats: these find what was laid for the first frame, and put all copies right.
func laden(t *testing.T, slow ...int) *Mesh {
	t.Helper()
	a, _ := arena.Standard(1)
	m, errno := New(api.Config{Peers: 6, Seed: 7, Arena: a, Lags: []int{0, 20, 40, 46, 47}})
	if errno != api.OK {
		t.Fatal(errno)
	}
	for _, p := range slow {
		for range 47 {
			m.Tick(p)
		}
	}
	for p := range 6 {
		m.Command(p, api.Order{Verb: api.Steer, A: p, B: 1}, leadOf(m, p)+1)
	}
	for p := range 6 {
		m.Tick(p)
	}
	m.deliverAll()
	return m
}

func leadOf(m *Mesh, p int) int64 { return m.peers[p].Frames()[0] }

// TestP24_4LowerSeatsFirst: a round's parcels are numbered by the seats of their senders, then by those that they are for, whoever's Tick takes longest, on however many processors.
func TestP24_4LowerSeatsFirst(t *testing.T) {
	defer runtime.GOMAXPROCS(runtime.GOMAXPROCS(0))
	for i := range 60 {
		runtime.GOMAXPROCS(1 + i%8)
		m := laden(t, [][]int{nil, {0}, {5}, {0, 1, 2}, {2, 4}}[i%5]...)
		first := m.gone + 1
		m.tickAll()
		var got, want []string
		for _, p := range m.Flight() {
			got = append(got, fmt.Sprintf("%d:%d>%d", p.No, p.From, p.To))
		}
		for from := range 6 {
			for to := range 6 {
				if to != from {
					want = append(want, fmt.Sprintf("%d:%d>%d", first+len(want), from, to))
				}
			}
		}
		if fmt.Sprint(got) != fmt.Sprint(want) {
			t.Fatalf("a round sends %v, meant %v", got, want)
		}
	}
}

// TestP24_4BehindTheOlder: what was on its way ahead of a round has lower numbers than what it sends.
func TestP24_4BehindTheOlder(t *testing.T) {
	m := laden(t)
	m.Tick(5)
	m.Double(m.gone + 2)
	older := m.Flight()
	m.tickAll()
	all := m.Flight()
	if len(all) != len(older)+30 {
		t.Fatalf("%d parcels behind %d", len(all), len(older))
	}
	for i, p := range older {
		if all[i].No != p.No || all[i].From != p.From || all[i].To != p.To {
			t.Errorf("at place %d: %v, meant %v", i, all[i], p)
		}
	}
	for i, p := range all[len(older):] {
		if p.No != older[len(older)-1].No+i+1 {
			t.Errorf("number %d at place %d", p.No, i)
		}
	}
}

// TestP24_4NumbersGoOn: rounds, with whatever has been lost or delivered between them, leave nothing on its way, and the next round goes on behind the numbers of the last one.
func TestP24_4NumbersGoOn(t *testing.T) {
	m := laden(t, 3)
	for i := range 40 {
		was := m.gone
		switch i % 4 {
		case 0: // the last number that was given is lost
			m.Tick(i % 6)
			l := m.Flight()
			m.Drop(l[len(l)-1].No)
		case 1: // all of them are
			m.Tick(i % 6)
			for _, p := range m.Flight() {
				m.Drop(p.No)
			}
		case 2: // the first one arrives, the second one comes twice
			m.Tick(i % 6)
			l := m.Flight()
			m.Deliver(l[0].No)
			m.Double(l[1].No)
		}
		m.Quiet(1)
		if l := m.Flight(); len(l) > 0 || m.gone < was+30 {
			t.Fatalf("round %d: %v, from %d to %d", i, l, was, m.gone)
		}
	}
}
