package gate_test

import (
	"math"
	"testing"

	"echelon/api"
	"echelon/gate"
)

// frameEdges are numbers about which a plan's frames may go wrong.
var frameEdges = []int64{math.MinInt64, math.MinInt64 + 1, math.MinInt64 + 48, math.MinInt64 + 49, -1 << 40, -49, -48, -5, -4, -1, 0, 1, 4, 5, 47, 48, 49, 1 << 31, 1 << 32, 1<<40 - 49, 1<<40 - 48, 1<<40 - 47, 1<<40 - 4, 1<<40 - 1, 1 << 40, 1<<40 + 1, 1<<40 + 48, 1 << 62, math.MaxInt64 - 48, math.MaxInt64 - 4, math.MaxInt64 - 1, math.MaxInt64}

// plans holds a gate to plan so, and to be unchanged by it.
func plans(t *testing.T, g *gate.Gate, lead, hind int64, lag int, to int64, stall bool) {
	t.Helper()
	holdsPlan(t, g, lead, hind, lag, api.Plan{Hind: to, Stall: stall}, api.OK)
}

// refusesPlan holds a gate to plan nothing of these, and to be unchanged by it.
func refusesPlan(t *testing.T, g *gate.Gate, lead, hind int64, lag int) {
	t.Helper()
	holdsPlan(t, g, lead, hind, lag, api.Plan{}, api.ErrArg)
}

func holdsPlan(t *testing.T, g *gate.Gate, lead, hind int64, lag int, want api.Plan, errno api.Errno) {
	t.Helper()
	all, least := g.Marks(), g.Least()
	for range 2 {
		p, e := g.Plan(lead, hind, lag)
		if p != want || e != errno {
			t.Errorf("Plan(%d, %d, %d) with Least %d: %v %d, meant %v %d", lead, hind, lag, least, p, e, want, errno)
		}
	}
	has(t, g, least, all...)
}

func TestP21_4Hind(t *testing.T) {
	g := with(t, 0, 0, 1<<40)
	for _, lag := range []int{1, 2, 47} {
		for _, hind := range []int64{math.MinInt64, -1 << 40, -49, -48, -1} {
			refusesPlan(t, g, 0, hind, lag)
			refusesPlan(t, g, 40, hind, lag)
			refusesPlan(t, g, hind, hind, lag)
		}
		refusesPlan(t, g, 0, 1, lag)
		refusesPlan(t, g, 9, 10, lag)
		refusesPlan(t, g, 9, 1<<40, lag)
		refusesPlan(t, g, 9, math.MaxInt64, lag)
		refusesPlan(t, g, 1<<40-1, 1<<40, lag)
		plans(t, g, 0, 0, lag, 0, false)
	}
	plans(t, g, 10, 10, 1, 10, false)
	plans(t, g, 10, 9, 1, 10, false)
}

func TestP21_4Lead(t *testing.T) {
	g := with(t, 0, 0, 1<<40)
	plans(t, g, 1<<40, 1<<40, 1, 1<<40, false)
	plans(t, g, 1<<40, 1<<40-1, 1, 1<<40, false)
	plans(t, g, 1<<40, 1<<40-10, 1, 1<<40-6, false)
	plans(t, g, 1<<40, 1<<40-10, 8, 1<<40-7, false)
	plans(t, g, 1<<40, 1<<40-48, 47, 1<<40-46, false)
	plans(t, g, 1<<40, 1<<40-48, 1, 1<<40-44, false)
	for _, lead := range []int64{1<<40 + 1, 1<<40 + 2, 1 << 41, 1 << 62, math.MaxInt64} {
		for _, hind := range []int64{1<<40 - 10, 1 << 40, 1<<40 + 1, lead - 48, lead - 1, lead} {
			refusesPlan(t, g, lead, hind, 1)
			refusesPlan(t, g, lead, hind, 47)
		}
	}
}

func TestP21_4Span(t *testing.T) {
	for _, hind := range []int64{0, 1, 100, 1 << 31, 1 << 32, 1<<40 - 49} {
		stuck, free := with(t, 0, 0, hind), with(t, 0, 0, 1<<40)
		plans(t, stuck, hind+47, hind, 1, hind, false)
		plans(t, stuck, hind+48, hind, 1, hind, true)
		refusesPlan(t, stuck, hind+49, hind, 1)
		plans(t, free, hind+48, hind, 1, hind+4, false)
		refusesPlan(t, free, hind+49, hind, 1)
		if hind < 1<<39 {
			for _, further := range []int64{50, 1 << 31, 1 << 32, 1<<32 + 1, 1 << 39} {
				refusesPlan(t, free, hind+further, hind, 1)
			}
		}
	}
	// Differences that would wrap round.
	g := with(t, 0, 0, 7)
	refusesPlan(t, g, math.MaxInt64, math.MinInt64, 1)
	refusesPlan(t, g, math.MinInt64, math.MaxInt64, 1)
	refusesPlan(t, g, math.MaxInt64, -1, 1)
	refusesPlan(t, g, 1<<40, math.MinInt64, 1)
}

func TestP21_4Lag(t *testing.T) {
	g := with(t, 0, 0, 100)
	for _, lag := range append([]int{0, 48, 49, 1<<32 + 1}, ints...) {
		refusesPlan(t, g, 0, 0, lag)
		refusesPlan(t, g, 50, 30, lag)
		refusesPlan(t, g, 50, 2, lag)
	}
	for lag := 1; lag <= 47; lag++ {
		plans(t, g, 50, 50, lag, 50, false)
		// The hindmost copy follows by just this lag, when the leading one has gone on.
		plans(t, g, 60, 60-int64(lag), lag, 61-int64(lag), false)
	}
	plans(t, g, 50, 48, 1, 50, false)
	plans(t, g, 50, 3, 47, 4, false)
	plans(t, g, 50, 4, 47, 4, false)
}

// TestP21_4SeveralWrong: whatever else is wrong, or is right.
func TestP21_4SeveralWrong(t *testing.T) {
	g := with(t, 1, 50, 0, 60)
	lags := append([]int{0, 1, 2, 46, 47, 48, 49}, ints...)
	for _, lead := range frameEdges {
		for _, hind := range frameEdges {
			for _, lag := range lags {
				p, e := g.Plan(lead, hind, lag)
				// Where the first two hold, the difference can't wrap round.
				may := hind >= 0 && lead <= 1<<40 && hind <= lead && lag > 0 && lag < 48 && lead-hind < 49
				if may != (e == api.OK) || e != api.OK && (e != api.ErrArg || p != api.Plan{}) {
					t.Errorf("Plan(%d, %d, %d): %v %d", lead, hind, lag, p, e)
				}
			}
		}
	}
	has(t, g, 50, 50, 0, 60)
}

// TestP21_4WhichIsLeast: each of the three is the least one in turn, by one and by more.
func TestP21_4WhichIsLeast(t *testing.T) {
	for _, x := range []struct {
		lead, hind, least int64
		lag               int
		to                int64
	}{
		{20, 10, 15, 8, 13}, // lead + 1 - lag
		{20, 10, 14, 8, 13},
		{20, 10, 13, 8, 13}, // and Least
		{20, 10, 100, 9, 12},
		{20, 10, 100, 10, 11},
		{20, 10, 12, 8, 12}, // Least
		{20, 10, 11, 8, 11},
		{20, 10, 13, 7, 13},
		{20, 10, 13, 1, 13},
		{20, 10, 14, 7, 14}, // all three
		{20, 10, 15, 6, 14}, // hind + CatchUp
		{20, 10, 15, 1, 14},
		{20, 10, 100, 1, 14},
		{20, 10, 1<<40 - 5, 6, 14},
		{20, 10, 14, 1, 14},
		// The least one is hind, or below it.
		{20, 10, 10, 8, 10},
		{20, 10, 9, 8, 10},
		{20, 10, 0, 8, 10},
		{20, 10, 100, 11, 10},
		{20, 10, 100, 12, 10},
		{20, 10, 100, 22, 10},
		{20, 10, 100, 47, 10},
		{20, 10, 0, 47, 10},
		{3, 0, 100, 47, 0},
		{0, 0, 100, 1, 0},
		{4, 0, 100, 1, 4},
		{5, 0, 100, 1, 4},
		{3, 0, 100, 1, 3},
	} {
		plans(t, with(t, 0, 0, x.least), x.lead, x.hind, x.lag, x.to, false)
		// With more peers the least mark alone counts, and self's doesn't.
		plans(t, with(t, 2, x.least+1, x.least, 0, x.least+5), x.lead, x.hind, x.lag, x.to, false)
	}
}

// TestP21_4Stall: it hangs on where the hindmost copy goes, not on where it is.
func TestP21_4Stall(t *testing.T) {
	for _, hind := range []int64{0, 1, 30, 1 << 32} {
		for least := range int64(6) {
			g := with(t, 1, hind+least, 0)
			plans(t, g, hind+48, hind, 1, hind+min(least, 4), least == 0)
			plans(t, g, hind+47, hind, 1, hind+min(least, 4), false)
		}
	}
	// By the lag too: with the greatest one, lead + 1 - lag is 2 above hind at the full span.
	g := with(t, 0, 0, 1000)
	plans(t, g, 148, 100, 47, 102, false)
	plans(t, g, 147, 100, 47, 101, false)
	plans(t, g, 146, 100, 47, 100, false)
	// A mark below hind holds it where it is.
	plans(t, with(t, 0, 0, 99), 148, 100, 47, 100, true)
	plans(t, with(t, 0, 0, 99), 147, 100, 47, 100, false)
	plans(t, with(t, 0, 0, 1<<40-60), 1<<40, 1<<40-48, 5, 1<<40-48, true)
}

// TestP21_4NoMarks: without marks the hindmost copy stays, and the leading one goes on until the span is full.
func TestP21_4NoMarks(t *testing.T) {
	for peers := 2; peers <= 6; peers++ {
		g := made(t, peers, peers/2)
		for lead := range int64(49) {
			plans(t, g, lead, 0, 2, 0, lead == 48)
		}
		refusesPlan(t, g, 49, 0, 2)
	}
}
