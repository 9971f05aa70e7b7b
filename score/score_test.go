package score_test

import (
	"math"
	"math/rand"
	"testing"

	"echelon/api"
	"echelon/score"
)

const bound = 2147483647

// with is a score one of whose fields is another number.
func with(s api.Score, field, n int) api.Score {
	switch field {
	case 0:
		s.Points = n
	case 1:
		s.Hits = n
	case 2:
		s.Outs = n
	case 3:
		s.Streak = n
	}
	return s
}

// goodOnes are scores that may be: each field alone at its edges, and all of them.
func goodOnes() []api.Score {
	all := []api.Score{
		{}, {Points: 3, Hits: 4, Outs: 5, Streak: 6},
		{Points: bound, Hits: bound, Outs: bound, Streak: bound},
		{Points: -bound, Hits: bound, Outs: bound, Streak: bound},
	}
	for _, s := range []api.Score{{}, {Points: -3, Hits: 4, Outs: 5, Streak: 6}} {
		for field := range 4 {
			for _, n := range []int{0, 1, bound - 1, bound} {
				all = append(all, with(s, field, n))
			}
		}
		all = append(all, with(s, 0, -1), with(s, 0, -bound), with(s, 0, -bound+1))
	}
	return all
}

// badOnes are scores that may not be: each field alone beyond its edges, and all of them.
func badOnes() []api.Score {
	all := []api.Score{
		{Points: bound + 1, Hits: -1, Outs: -1, Streak: -1},
		{Points: math.MinInt, Hits: math.MaxInt, Outs: math.MaxInt, Streak: math.MaxInt},
	}
	for _, s := range []api.Score{{}, {Points: -3, Hits: 4, Outs: 5, Streak: 6}} {
		for field := range 4 {
			for _, n := range []int{math.MinInt, -bound - 2, -bound - 1, bound + 1, bound + 2, 1 << 32, math.MaxInt} {
				all = append(all, with(s, field, n))
			}
		}
		for field := 1; field < 4; field++ {
			all = append(all, with(s, field, -1), with(s, field, -bound))
		}
	}
	return all
}

// someIn is a number of a range, often at its ends or near to them.
func someIn(r *rand.Rand, least, most int) int {
	switch r.Intn(6) {
	case 0:
		return least + r.Intn(min(20, most-least+1))
	case 1:
		return most - r.Intn(min(20, most-least+1))
	case 2:
		return max(least, min(most, r.Intn(41)-20))
	}
	return least + r.Intn(most-least+1)
}

// someScore is one that may be.
func someScore(r *rand.Rand) api.Score {
	return api.Score{Points: someIn(r, -bound, bound), Hits: someIn(r, 0, bound), Outs: someIn(r, 0, bound), Streak: someIn(r, 0, bound)}
}

// someAny is one that may not be, now and then.
func someAny(r *rand.Rand) api.Score {
	if bad := badOnes(); r.Intn(20) == 0 {
		return bad[r.Intn(len(bad))]
	}
	return someScore(r)
}

// What the chapter's words say.

func meantMayBe(s api.Score) bool {
	for _, n := range []int{s.Hits, s.Outs, s.Streak} {
		if n < 0 || n > bound {
			return false
		}
	}
	return s.Points >= -bound && s.Points <= bound
}

// meantBound is a number, or the bound that it would be beyond.
func meantBound(n int) int {
	if n > bound {
		return bound
	}
	if n < -bound {
		return -bound
	}
	return n
}

// meantHit is P12.2, word by word.
func meantHit(by, who api.Score, power int, out bool) (api.Score, api.Score, api.Errno) {
	if !meantMayBe(by) || !meantMayBe(who) {
		return api.Score{}, api.Score{}, 120
	}
	if power < 1 || power > 3 {
		return api.Score{}, api.Score{}, 1
	}
	a, b := by, who
	a.Hits = meantBound(by.Hits + 1)
	a.Points = meantBound(by.Points + power)
	if out {
		streak := by.Streak
		if streak > 5 {
			streak = 5
		}
		a.Points = meantBound(by.Points + power + 10 + streak)
		a.Streak = meantBound(by.Streak + 1)
		b.Outs = meantBound(who.Outs + 1)
		b.Streak = 0
		b.Points = meantBound(who.Points - 2)
	}
	return a, b, 0
}

func askHit(t *testing.T, by, who api.Score, power int, out bool) {
	t.Helper()
	wantBy, wantWho, wantErrno := meantHit(by, who, power, out)
	if a, b, e := score.Hit(by, who, power, out); a != wantBy || b != wantWho || e != wantErrno {
		t.Errorf("Hit(%+v, %+v, %d, %v): %+v %+v %d, not %+v %+v %d", by, who, power, out, a, b, e, wantBy, wantWho, wantErrno)
	}
}

// wantHit asks for two scores without an error.
func wantHit(t *testing.T, by, who api.Score, power int, out bool, wantBy, wantWho api.Score) {
	t.Helper()
	if a, b, e := score.Hit(by, who, power, out); a != wantBy || b != wantWho || e != 0 {
		t.Errorf("Hit(%+v, %+v, %d, %v): %+v %+v %d, not %+v %+v", by, who, power, out, a, b, e, wantBy, wantWho)
	}
}

func TestP12_1(t *testing.T) {
	for _, s := range goodOnes() {
		if e := score.Check(s); e != 0 {
			t.Errorf("Check(%+v): %d", s, e)
		}
	}
	for _, s := range badOnes() {
		if e := score.Check(s); e != 120 {
			t.Errorf("Check(%+v): %d", s, e)
		}
	}
}

func TestP12_2Hit(t *testing.T) {
	by, who := api.Score{Points: 3, Hits: 4, Outs: 5, Streak: 6}, api.Score{Points: 30, Hits: 40, Outs: 50, Streak: 60}
	for power := 1; power <= 3; power++ {
		wantHit(t, by, who, power, false, api.Score{Points: 3 + power, Hits: 5, Outs: 5, Streak: 6}, who)
		wantHit(t, by, who, power, true, api.Score{Points: 18 + power, Hits: 5, Outs: 5, Streak: 7}, api.Score{Points: 28, Hits: 40, Outs: 51, Streak: 0})
	}
	wantHit(t, api.Score{Points: 3, Streak: 7}, api.Score{Points: 1, Streak: 2}, 2, true,
		api.Score{Points: 20, Hits: 1, Streak: 8}, api.Score{Points: -1, Outs: 1})
	wantHit(t, api.Score{Points: -12}, api.Score{}, 1, true, api.Score{Points: -1, Hits: 1, Streak: 1}, api.Score{Points: -2, Outs: 1})
}

// TestP12_2Streak: a streak brings as many points as it is ahead of the hit, at most 5.
func TestP12_2Streak(t *testing.T) {
	for streak, points := range map[int]int{0: 11, 1: 12, 2: 13, 3: 14, 4: 15, 5: 16, 6: 16, 7: 16, 1000: 16, bound - 1: 16} {
		by := api.Score{Streak: streak}
		wantHit(t, by, api.Score{}, 1, true, api.Score{Points: points, Hits: 1, Streak: streak + 1}, api.Score{Points: -2, Outs: 1})
		wantHit(t, by, api.Score{}, 1, false, api.Score{Points: 1, Hits: 1, Streak: streak}, api.Score{})
	}
	wantHit(t, api.Score{Streak: bound}, api.Score{}, 1, true, api.Score{Points: 16, Hits: 1, Streak: bound}, api.Score{Points: -2, Outs: 1})
}

// TestP12_2Bounds: points up to the bounds, to one beside them, and beyond them; counts at their bound.
func TestP12_2Bounds(t *testing.T) {
	for power := 1; power <= 3; power++ {
		for _, streak := range []int{0, 4, 5, 6, bound} {
			for below := 0; below <= 22; below++ {
				for _, out := range []bool{false, true} {
					askHit(t, api.Score{Points: bound - below, Streak: streak}, api.Score{Points: below - bound, Streak: streak}, power, out)
				}
			}
		}
	}
	wantHit(t, api.Score{Points: bound - 17, Streak: 4}, api.Score{Points: -bound + 2}, 3, true, api.Score{Points: bound, Hits: 1, Streak: 5}, api.Score{Points: -bound, Outs: 1})
	wantHit(t, api.Score{Points: bound - 18, Streak: 4}, api.Score{Points: -bound + 3}, 3, true, api.Score{Points: bound - 1, Hits: 1, Streak: 5}, api.Score{Points: -bound + 1, Outs: 1})
	wantHit(t, api.Score{Points: bound - 16, Streak: 4}, api.Score{Points: -bound + 1}, 3, true, api.Score{Points: bound, Hits: 1, Streak: 5}, api.Score{Points: -bound, Outs: 1})
	wantHit(t, api.Score{Points: bound}, api.Score{Points: -bound}, 1, true, api.Score{Points: bound, Hits: 1, Streak: 1}, api.Score{Points: -bound, Outs: 1})
	wantHit(t, api.Score{Hits: bound, Outs: bound, Streak: bound}, api.Score{Hits: bound, Outs: bound, Streak: bound}, 1, true,
		api.Score{Points: 16, Hits: bound, Outs: bound, Streak: bound}, api.Score{Points: -2, Hits: bound, Outs: bound})
	wantHit(t, api.Score{Hits: bound - 1, Streak: bound - 1}, api.Score{Outs: bound - 1}, 1, true,
		api.Score{Points: 16, Hits: bound, Streak: bound}, api.Score{Points: -2, Outs: bound})
}

func TestP12_2Spoilt(t *testing.T) {
	powers := []int{math.MinInt, -1, 0, 1, 2, 3, 4, 100, math.MaxInt}
	for _, bad := range badOnes() {
		for _, good := range []api.Score{{}, {Points: 3, Hits: 4, Outs: 5, Streak: 6}} {
			for _, power := range powers {
				for _, out := range []bool{false, true} {
					for _, pair := range [][2]api.Score{{bad, good}, {good, bad}, {bad, bad}} {
						if a, b, e := score.Hit(pair[0], pair[1], power, out); a != (api.Score{}) || b != (api.Score{}) || e != 120 {
							t.Errorf("Hit(%+v, %+v, %d, %v): %+v %+v %d", pair[0], pair[1], power, out, a, b, e)
						}
					}
				}
			}
		}
	}
}

func TestP12_2Power(t *testing.T) {
	for _, s := range goodOnes() {
		for _, power := range []int{math.MinInt, -3, -2, -1, 0, 4, 5, 100, math.MaxInt} {
			for _, out := range []bool{false, true} {
				if a, b, e := score.Hit(s, s, power, out); a != (api.Score{}) || b != (api.Score{}) || e != 1 {
					t.Errorf("Hit(%+v, the same, %d, %v): %+v %+v %d", s, power, out, a, b, e)
				}
			}
		}
	}
}

func TestP12_2Some(t *testing.T) {
	r := rand.New(rand.NewSource(122))
	for _, by := range goodOnes() {
		for _, who := range goodOnes() {
			askHit(t, by, who, 1+r.Intn(3), true)
			askHit(t, by, who, 1+r.Intn(3), false)
		}
	}
	for range 100000 {
		askHit(t, someAny(r), someAny(r), r.Intn(5), r.Intn(2) == 0)
	}
}

func TestP12_3(t *testing.T) {
	for _, c := range []struct{ points, more, want int }{
		{0, 0, 0}, {0, 1, 1}, {0, 99, 99}, {0, 100, 100}, {5, 7, 12}, {-100, 100, 0}, {-5, 3, -2}, {-bound, 0, -bound}, {-bound, 100, -bound + 100},
		{bound, 0, bound}, {bound, 1, bound}, {bound, 100, bound}, {bound - 1, 0, bound - 1}, {bound - 1, 1, bound}, {bound - 1, 2, bound},
		{bound - 101, 100, bound - 1}, {bound - 100, 100, bound}, {bound - 99, 100, bound}, {bound - 99, 99, bound}, {bound - 100, 99, bound - 1},
	} {
		s := api.Score{Points: c.points, Hits: 4, Outs: 5, Streak: 6}
		if got, e := score.Gain(s, c.more); got != with(s, 0, c.want) || e != 0 {
			t.Errorf("Gain(%+v, %d): %+v %d", s, c.more, got, e)
		}
	}
}

func TestP12_3All(t *testing.T) {
	for _, s := range goodOnes() {
		for more := range 101 {
			if got, e := score.Gain(s, more); got != with(s, 0, meantBound(s.Points+more)) || e != 0 {
				t.Errorf("Gain(%+v, %d): %+v %d", s, more, got, e)
			}
		}
	}
}

func TestP12_3Spoilt(t *testing.T) {
	for _, s := range badOnes() {
		for _, points := range []int{math.MinInt, -1, 0, 1, 100, 101, math.MaxInt} {
			if got, e := score.Gain(s, points); got != (api.Score{}) || e != 120 {
				t.Errorf("Gain(%+v, %d): %+v %d", s, points, got, e)
			}
		}
	}
	for _, s := range goodOnes() {
		for _, points := range []int{math.MinInt, -100, -1, 101, 102, 1 << 32, math.MaxInt} {
			if got, e := score.Gain(s, points); got != (api.Score{}) || e != 1 {
				t.Errorf("Gain(%+v, %d): %+v %d", s, points, got, e)
			}
		}
	}
}
