package cmdlog_test

import (
	"math/rand"
	"slices"
	"testing"

	"echelon/api"
	"echelon/cmdlog"
)

// drawnLog is one with many entries, whose base is somewhere.
func drawnLog(t *testing.T, r *rand.Rand, peers, rungs int) *cmdlog.Log {
	t.Helper()
	l := made(t, peers, rungs)
	l.Purge(r.Int63n(300))
	for i := range r.Intn(200) {
		l.Put(command(l.Base()+1+r.Int63n(112), r.Intn(peers), i+1), r.Intn(rungs))
	}
	return l
}

// nested holds what each rung misses to be missed by the rung ahead of it.
func nested(t *testing.T, l *cmdlog.Log, rungs int) {
	t.Helper()
	for k := range rungs - 1 {
		ahead := l.Missed(k)
		for _, c := range l.Missed(k + 1) {
			if !slices.Contains(ahead, c) {
				t.Fatalf("rung %d misses %v, rung %d does not", k+1, c, k)
			}
		}
	}
	misses(t, l, rungs-1)
}

func TestP19_7MissedByTheRungAhead(t *testing.T) {
	r := rand.New(rand.NewSource(197))
	for range 150 {
		peers, rungs := 2+r.Intn(5), 2+r.Intn(4)
		l := drawnLog(t, r, peers, rungs)
		nested(t, l, rungs)
		l.Heal(r.Intn(rungs))
		nested(t, l, rungs)
		l.Purge(l.Base() + r.Int63n(120))
		nested(t, l, rungs)
	}
}

// TestP19_7WhatHealLeaves: the rungs ahead miss what this one misses, and neither it nor those behind it miss anything else than before.
func TestP19_7WhatHealLeaves(t *testing.T) {
	r := rand.New(rand.NewSource(1977))
	for range 150 {
		rungs := 2 + r.Intn(4)
		l := drawnLog(t, r, 2+r.Intn(5), rungs)
		d := r.Intn(rungs)
		before := make([][]api.Command, rungs)
		for k := range rungs {
			before[k] = l.Missed(k)
		}
		n, base := l.Len(), l.Base()
		l.Heal(d)
		for k := range rungs {
			misses(t, l, k, before[max(k, d)]...)
		}
		if l.Len() != n || l.Base() != base {
			t.Fatalf("Heal(%d): %d entries, base %d; were %d, %d", d, l.Len(), l.Base(), n, base)
		}
	}
}

// TestP19_7NeverMore: a log that is put all that it takes has peers * MaxPerFrame * LogFrames entries, at each base, and not one more.
func TestP19_7NeverMore(t *testing.T) {
	for _, peers := range []int{2, 3, 6} {
		l := made(t, peers, 5)
		seq := 0
		fill := func() {
			for frame := l.Base() - 2; frame <= l.Base()+115; frame++ {
				for peer := -1; peer <= peers; peer++ {
					for range 4 {
						seq++
						l.Put(command(frame, peer, seq), seq%5)
					}
				}
			}
			if n := l.Len(); n != peers*3*112 {
				t.Fatalf("%d peers at base %d: %d entries", peers, l.Base(), n)
			}
			for frame := l.Base() + 1; frame <= l.Base()+112; frame++ {
				for peer := range peers {
					if n := l.Count(frame, peer); n != 3 {
						t.Fatalf("Count(%d, %d): %d", frame, peer, n)
					}
				}
			}
		}
		fill()
		for _, more := range []int64{1, 5, 111, 112, 300} {
			purges(t, l, l.Base()+more, int(min(more, 112))*3*peers)
			fill()
		}
		if !slices.IsSortedFunc(l.All(), func(a, b api.Entry) int {
			if ahead(a.Command, b.Command) {
				return -1
			}
			return 1
		}) {
			t.Error("All is not in order")
		}
	}
}
