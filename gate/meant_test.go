package gate_test

import (
	"math/big"
	"math/rand"
	"slices"
	"testing"

	"echelon/api"
)

// meant is the chapter read a second time, by other means: all marks that ever came, which are gone through anew each time.
type meant struct {
	peers, self int
	came        []mark
}

type mark struct {
	peer  int
	frame int64
}

func (m *meant) mark(peer int, frame int64) api.Errno {
	if peer < 0 || peer >= m.peers || peer == m.self || frame < 0 || frame > 1<<40 {
		return 210
	}
	m.came = append(m.came, mark{peer, frame})
	return 0
}

// of is the greatest mark of a seat.
func (m *meant) of(peer int) int64 {
	var out int64
	for _, x := range m.came {
		if x.peer == peer && x.frame > out {
			out = x.frame
		}
	}
	return out
}

func (m *meant) marks() []int64 {
	var out []int64
	for peer := range m.peers {
		out = append(out, m.of(peer))
	}
	return out
}

func (m *meant) least() int64 { return leastBut(m.marks(), m.self) }

// between tells whether from <= n <= to.
func between(n *big.Int, from, to int64) bool {
	return n.Cmp(big.NewInt(from)) >= 0 && n.Cmp(big.NewInt(to)) <= 0
}

// plan counts in numbers without bounds, and goes up from hind frame by frame while all three allow it.
func (m *meant) plan(lead, hind int64, lag int) (api.Plan, api.Errno) {
	l, h, g := big.NewInt(lead), big.NewInt(hind), big.NewInt(int64(lag))
	span := new(big.Int).Sub(l, h)
	if h.Sign() < 0 || span.Sign() < 0 || !between(l, 0, 1<<40) || !between(span, 0, 48) || !between(g, 1, 47) {
		return api.Plan{}, 1
	}
	to := hind
	for n := range int64(4) {
		next := hind + n + 1
		if next > m.least() || lead-next < int64(lag)-1 {
			break
		}
		to = next
	}
	return api.Plan{Hind: to, Stall: lead == to+48}, 0
}

// drawnFrame is mostly one about those marks that there are, seldom an edge.
func drawnFrame(r *rand.Rand, m *meant) int64 {
	switch r.Intn(12) {
	case 0:
		return frameEdges[r.Intn(len(frameEdges))]
	case 1:
		return wrongFrames[r.Intn(len(wrongFrames))]
	case 2:
		return m.of(r.Intn(m.peers)) - 1 + r.Int63n(3)
	}
	return max(0, m.least()-3+r.Int63n(12))
}

func drawnSeat(r *rand.Rand, m *meant) int {
	if r.Intn(10) == 0 {
		return ints[r.Intn(len(ints))]
	}
	return r.Intn(m.peers+2) - 1
}

func drawnLag(r *rand.Rand) int {
	switch r.Intn(10) {
	case 0:
		return ints[r.Intn(len(ints))]
	case 1:
		return []int{0, 1, 47, 48}[r.Intn(4)]
	case 2, 3:
		return 1 + r.Intn(47)
	}
	return 1 + r.Intn(6)
}

// drawnSpan is how far a lead is above a hind: mostly what may be, often at its ends.
func drawnSpan(r *rand.Rand) int64 {
	switch r.Intn(6) {
	case 0:
		return 46 + r.Int63n(4)
	case 1:
		return -1 + r.Int63n(3)
	case 2:
		return r.Int63n(49)
	}
	return r.Int63n(12)
}

// TestP21_4Meant plays at random, and holds every answer against what is meant. Each kind of answer must have been seen often enough.
func TestP21_4Meant(t *testing.T) {
	r := rand.New(rand.NewSource(214))
	seen := map[api.Errno]int{}
	stalls, to := 0, map[int64]int{}
	for range 800 {
		peers := 2 + r.Intn(5)
		m := &meant{peers: peers, self: r.Intn(peers)}
		g := made(t, m.peers, m.self)
		for range 100 {
			peer, frame := drawnSeat(r, m), drawnFrame(r, m)
			e, want := g.Mark(peer, frame), m.mark(peer, frame)
			if e != want {
				t.Fatalf("Mark(%d, %d): %d, meant %d", peer, frame, e, want)
			}
			seen[e]++
			hind, lag := drawnFrame(r, m), drawnLag(r)
			lead := hind + drawnSpan(r)
			p, e := g.Plan(lead, hind, lag)
			wantPlan, want := m.plan(lead, hind, lag)
			if p != wantPlan || e != want {
				t.Fatalf("Plan(%d, %d, %d) with Least %d: %v %d, meant %v %d", lead, hind, lag, m.least(), p, e, wantPlan, want)
			}
			seen[e]++
			if e == api.OK {
				to[p.Hind-hind]++
			}
			if p.Stall {
				stalls++
			}
			all := g.Marks()
			if !slices.Equal(all, m.marks()) || g.Least() != m.least() {
				t.Fatalf("Marks %v, Least %d, meant %v, %d", all, g.Least(), m.marks(), m.least())
			}
			spoil(all)
		}
	}
	for _, e := range []api.Errno{0, 1, 210} {
		if seen[e] < 3000 {
			t.Errorf("%d was answered only %d times", e, seen[e])
		}
	}
	for n := range int64(5) {
		if to[n] < 300 {
			t.Errorf("a plan went %d frames only %d times", n, to[n])
		}
	}
	if stalls < 300 {
		t.Errorf("only %d stalls", stalls)
	}
}

// TestP21_4AllSmall: every plan of small numbers, and of all lags and spans.
func TestP21_4AllSmall(t *testing.T) {
	for least := range int64(8) {
		m := &meant{peers: 3, self: 1}
		g := made(t, 3, 1)
		for _, peer := range []int{0, 2} {
			frame := least + int64(peer)
			marks(t, g, peer, frame)
			m.mark(peer, frame)
		}
		for hind := int64(-1); hind < 9; hind++ {
			for lead := hind - 1; lead < hind+51; lead++ {
				for lag := -1; lag < 50; lag++ {
					p, e := g.Plan(lead, hind, lag)
					if want, errno := m.plan(lead, hind, lag); p != want || e != errno {
						t.Fatalf("Plan(%d, %d, %d) with Least %d: %v %d, meant %v %d", lead, hind, lag, least, p, e, want, errno)
					}
				}
			}
		}
	}
}
