package score_test

import (
	"math/rand"
	"slices"
	"testing"

	"echelon/api"
	"echelon/score"
)

// TestP12_5MayBe: what Hit and Gain answer may be.
func TestP12_5MayBe(t *testing.T) {
	r := rand.New(rand.NewSource(125))
	for range 100000 {
		by, who := someScore(r), someScore(r)
		a, b, e1 := score.Hit(by, who, 1+r.Intn(3), r.Intn(2) == 0)
		c, e2 := score.Gain(by, r.Intn(101))
		if e1 != 0 || e2 != 0 {
			t.Fatalf("%+v %+v: %d %d", by, who, e1, e2)
		}
		for _, s := range []api.Score{a, b, c} {
			if score.Check(s) != 0 || !meantMayBe(s) {
				t.Fatalf("%+v may not be: of %+v and %+v", s, by, who)
			}
		}
	}
}

// TestP12_5Ranking: each place is there once; nobody stands behind one with fewer points.
func TestP12_5Ranking(t *testing.T) {
	r := rand.New(rand.NewSource(126))
	for range 50000 {
		l := make([]api.Score, r.Intn(7))
		for i := range l {
			l[i] = someScore(r)
		}
		order, e := score.Ranking(l)
		if e != 0 || len(order) != len(l) {
			t.Fatalf("Ranking(%+v): %v %d", l, order, e)
		}
		for i := range order {
			if !slices.Contains(order, i) || i > 0 && l[order[i-1]].Points < l[order[i]].Points {
				t.Fatalf("Ranking(%+v): %v", l, order)
			}
		}
	}
}

// TestP12_5Hit: without a bound a hit brings at least its power, and an out costs 2.
func TestP12_5Hit(t *testing.T) {
	r := rand.New(rand.NewSource(127))
	for range 100000 {
		by, who := someScore(r), someScore(r)
		by.Points, who.Points = someIn(r, -bound, bound-18), someIn(r, 2-bound, bound)
		power, out := 1+r.Intn(3), r.Intn(2) == 0
		a, b, _ := score.Hit(by, who, power, out)
		if a.Points < by.Points+power || out != (b.Points == who.Points-2) || !out && b != who {
			t.Fatalf("Hit(%+v, %+v, %d, %v): %+v %+v", by, who, power, out, a, b)
		}
	}
}

// TestP12_5Game: a row of hits among six, told one by one.
func TestP12_5Game(t *testing.T) {
	r := rand.New(rand.NewSource(128))
	l := make([]api.Score, 6)
	hits, outs := 0, 0
	for range 5000 {
		by, power, out := r.Intn(6), 1+r.Intn(3), r.Intn(4) == 0
		who := (by + 1 + r.Intn(5)) % 6
		l[by], l[who], _ = score.Hit(l[by], l[who], power, out)
		hits++
		if out {
			outs++
		}
		askRanking(t, l)
	}
	for _, s := range l {
		hits, outs = hits-s.Hits, outs-s.Outs
	}
	if hits != 0 || outs != 0 {
		t.Errorf("%d hits and %d outs are nobody's: %+v", hits, outs, l)
	}
}
