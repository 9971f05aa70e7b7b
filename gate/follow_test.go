package gate_test

import (
	"math/rand"
	"testing"

	"echelon/api"
)

// TestP21_5MarksNeverFall: behind any calls, right and wrong ones.
func TestP21_5MarksNeverFall(t *testing.T) {
	r := rand.New(rand.NewSource(215))
	for range 200 {
		peers := 2 + r.Intn(5)
		m := &meant{peers: peers, self: r.Intn(peers)}
		g := made(t, m.peers, m.self)
		before, least := g.Marks(), g.Least()
		for range 100 {
			peer, frame := drawnSeat(r, m), drawnFrame(r, m)
			g.Mark(peer, frame)
			m.mark(peer, frame)
			g.Plan(drawnFrame(r, m), drawnFrame(r, m), drawnLag(r))
			now := g.Marks()
			for i, n := range now {
				if n < before[i] || n > 1<<40 {
					t.Fatalf("behind Mark(%d, %d): %v, ahead of it %v", peer, frame, now, before)
				}
			}
			if g.Least() < least || now[m.self] != 0 {
				t.Fatalf("behind Mark(%d, %d): Least %d, was %d; Marks %v for %d", peer, frame, g.Least(), least, now, m.self)
			}
			before, least = now, g.Least()
		}
	}
}

// TestP21_5PlansKeepWithinBounds: a plan never goes back, nor above what has come, and goes on where it can.
func TestP21_5PlansKeepWithinBounds(t *testing.T) {
	r := rand.New(rand.NewSource(2155))
	planned := 0
	for range 300 {
		peers := 2 + r.Intn(5)
		m := &meant{peers: peers, self: r.Intn(peers)}
		g := made(t, m.peers, m.self)
		for range 200 {
			peer, frame := drawnSeat(r, m), drawnFrame(r, m)
			g.Mark(peer, frame)
			m.mark(peer, frame)
			hind, lag := drawnFrame(r, m), drawnLag(r)
			lead := hind + drawnSpan(r)
			p, e := g.Plan(lead, hind, lag)
			if e != api.OK {
				continue
			}
			planned++
			least := g.Least()
			if p.Hind < hind || p.Hind > hind+4 || p.Hind > lead || hind <= least && p.Hind > least {
				t.Fatalf("Plan(%d, %d, %d) with Least %d goes to %d", lead, hind, lag, least, p.Hind)
			}
			if p.Hind < min(hind+1, lead+1-int64(lag), least) {
				t.Fatalf("Plan(%d, %d, %d) with Least %d stays at %d", lead, hind, lag, least, p.Hind)
			}
			if p.Stall != (lead-p.Hind >= 48) {
				t.Fatalf("Plan(%d, %d, %d): to %d, stall %v", lead, hind, lag, p.Hind, p.Stall)
			}
		}
	}
	if planned < 10000 {
		t.Errorf("only %d plans", planned)
	}
}

// TestP21_5Game: a peer that keeps to its gate's plans, Tick by Tick, with marks that come late or never. What it plans next is never refused, and once the others' marks come the hindmost copy catches up with its lag.
func TestP21_5Game(t *testing.T) {
	r := rand.New(rand.NewSource(21555))
	stalls := 0
	for range 100 {
		peers, lag := 2+r.Intn(5), 1+r.Intn(47)
		g := made(t, peers, 0)
		var lead, hind, others int64
		tick := func() {
			p, e := g.Plan(lead, hind, lag)
			if e != api.OK || p.Hind > max(hind, g.Least()) {
				t.Fatalf("Plan(%d, %d, %d) with Least %d: %v %d", lead, hind, lag, g.Least(), p, e)
			}
			hind = p.Hind
			if p.Stall {
				stalls++
			} else {
				lead++
			}
		}
		for range 300 {
			tick()
			others += r.Int63n(3)
			if r.Intn(4) == 0 {
				marks(t, g, 1+r.Intn(peers-1), max(0, others-r.Int63n(20)))
			}
		}
		for peer := 1; peer < peers; peer++ {
			marks(t, g, peer, 1<<40)
		}
		for range 100 {
			tick()
		}
		if lead-hind != int64(lag) {
			t.Errorf("lag %d, but the copies are at %d and %d", lag, lead, hind)
		}
	}
	if stalls < 300 {
		t.Errorf("only %d stalls", stalls)
	}
}
