package score_test

import (
	"math/rand"
	"slices"
	"testing"

	"echelon/api"
	"echelon/score"
)

// meantAhead is what P12.4 says of two places, word by word.
func meantAhead(l []api.Score, a, b int) bool {
	switch {
	case l[a].Points != l[b].Points:
		return l[a].Points > l[b].Points
	case l[a].Outs != l[b].Outs:
		return l[a].Outs < l[b].Outs
	case l[a].Hits != l[b].Hits:
		return l[a].Hits > l[b].Hits
	}
	return a < b
}

// meantRanking puts each place behind as many as are ahead of it.
func meantRanking(l []api.Score) ([]int, api.Errno) {
	if len(l) > 6 {
		return nil, 120
	}
	places := make([]int, len(l))
	for a := range l {
		if !meantMayBe(l[a]) {
			return nil, 120
		}
		ahead := 0
		for b := range l {
			if a != b && meantAhead(l, b, a) {
				ahead++
			}
		}
		places[ahead] = a
	}
	return places, 0
}

func askRanking(t *testing.T, l []api.Score) {
	t.Helper()
	want, wantErrno := meantRanking(l)
	if got, e := score.Ranking(l); !slices.Equal(got, want) || e != wantErrno {
		t.Errorf("Ranking(%+v): %v %d, not %v %d", l, got, e, want, wantErrno)
	}
}

// wantRanking asks for places without an error.
func wantRanking(t *testing.T, l []api.Score, want ...int) {
	t.Helper()
	if got, e := score.Ranking(l); !slices.Equal(got, want) || e != 0 {
		t.Errorf("Ranking(%+v): %v %d, not %v", l, got, e, want)
	}
}

// eachOrder calls a function with the numbers below n in each of their orders.
func eachOrder(n int, do func(order []int)) {
	order := make([]int, 0, n)
	var next func()
	next = func() {
		if len(order) == n {
			do(order)
			return
		}
		for i := range n {
			if !slices.Contains(order, i) {
				order = append(order, i)
				next()
				order = order[:len(order)-1]
			}
		}
	}
	next()
}

// places are those of a list in an order.
func places(l []api.Score, order []int) []api.Score {
	var all []api.Score
	for _, i := range order {
		all = append(all, l[i])
	}
	return all
}

func TestP12_4Ranking(t *testing.T) {
	wantRanking(t, nil)
	wantRanking(t, []api.Score{})
	wantRanking(t, []api.Score{{}}, 0)
	wantRanking(t, []api.Score{{Points: -bound, Hits: bound, Outs: bound, Streak: bound}}, 0)
	wantRanking(t, []api.Score{{Points: 1}, {Points: 5, Outs: 2}, {Points: 5, Outs: 1}, {Points: 5, Outs: 1, Hits: 3}}, 3, 2, 1, 0)
	wantRanking(t, []api.Score{{Points: 2}, {Points: 9}, {Points: -4}, {Points: 9}, {}, {Points: 3}}, 1, 3, 5, 0, 4, 2)
}

// TestP12_4OneField: scores that differ by one field alone, or by nothing.
func TestP12_4OneField(t *testing.T) {
	some := api.Score{Points: 7, Hits: 8, Outs: 9, Streak: 10}
	wantRanking(t, []api.Score{with(some, 0, 6), with(some, 0, 8), some}, 1, 2, 0)
	wantRanking(t, []api.Score{with(some, 0, -bound), with(some, 0, bound), with(some, 0, 0)}, 1, 2, 0)
	wantRanking(t, []api.Score{with(some, 2, 10), with(some, 2, 8), some}, 1, 2, 0)
	wantRanking(t, []api.Score{with(some, 2, bound), with(some, 2, 0), some}, 1, 2, 0)
	wantRanking(t, []api.Score{with(some, 1, 7), with(some, 1, 9), some}, 1, 2, 0)
	wantRanking(t, []api.Score{with(some, 1, 0), with(some, 1, bound), some}, 1, 2, 0)
	wantRanking(t, []api.Score{with(some, 3, 9), with(some, 3, 11), some}, 0, 1, 2)
	wantRanking(t, []api.Score{with(some, 3, bound), with(some, 3, 0), some}, 0, 1, 2)
	wantRanking(t, []api.Score{some, some, some, some, some, some}, 0, 1, 2, 3, 4, 5)
}

// TestP12_4WhatComesFirst: points are asked ahead of outs, outs ahead of hits, hits ahead of places; a streak is not asked.
func TestP12_4WhatComesFirst(t *testing.T) {
	wantRanking(t, []api.Score{{Points: 1, Outs: 0, Hits: 9}, {Points: 2, Outs: 9, Hits: 0}}, 1, 0)
	wantRanking(t, []api.Score{{Points: 1, Outs: 9, Hits: 9}, {Points: 1, Outs: 8, Hits: 0}}, 1, 0)
	wantRanking(t, []api.Score{{Points: 1, Outs: 9, Hits: 8, Streak: 5}, {Points: 1, Outs: 9, Hits: 9}}, 1, 0)
	wantRanking(t, []api.Score{{Streak: 1}, {Streak: 3}, {Streak: 2}}, 0, 1, 2)
}

// TestP12_4AllOrders: falling, rising and mixed orders of six scores; of those that differ by one field, by two, and of some that are alike.
func TestP12_4AllOrders(t *testing.T) {
	some := api.Score{Points: 7, Hits: 8, Outs: 9, Streak: 10}
	lists := [][]api.Score{
		{{Points: 9}, {Points: 9, Outs: 1, Hits: 4}, {Points: 9, Outs: 1, Hits: 3}, {Points: 8}, {Points: -1}, {Points: -1, Outs: 2}},
		{{Points: bound}, {Points: bound - 1}, {Points: 0}, {Points: -1}, {Points: 1 - bound}, {Points: -bound}},
		{some, some, some, with(some, 0, 8), with(some, 1, 7), with(some, 2, 10)},
		{{}, {Streak: 1}, {Hits: 1}, {Outs: 1}, {Points: 1}, {Points: -1}},
	}
	for field := range 4 {
		var l []api.Score
		for n := range 6 {
			l = append(l, with(some, field, n/2))
		}
		lists = append(lists, l)
	}
	for _, l := range lists {
		for n := range 7 {
			eachOrder(n, func(order []int) { askRanking(t, places(l, order)) })
		}
	}
}

func TestP12_4Spoilt(t *testing.T) {
	refused := func(l []api.Score) {
		t.Helper()
		if got, e := score.Ranking(l); len(got) != 0 || e != 120 {
			t.Errorf("Ranking(%+v): %v %d", l, got, e)
		}
	}
	for _, bad := range badOnes() {
		for n := 1; n <= 8; n++ {
			for place := range n {
				l := make([]api.Score, n)
				l[place] = bad
				refused(l)
			}
		}
	}
	for _, n := range []int{7, 8, 49, 1000} {
		refused(make([]api.Score, n))
	}
	askRanking(t, make([]api.Score, 6))
}

func TestP12_4Some(t *testing.T) {
	r := rand.New(rand.NewSource(124))
	few := func() api.Score {
		return api.Score{Points: r.Intn(3) - 1, Hits: r.Intn(3), Outs: r.Intn(3), Streak: r.Intn(3)}
	}
	for range 50000 {
		near, far := make([]api.Score, r.Intn(8)), make([]api.Score, r.Intn(8))
		for i := range near {
			near[i] = few()
		}
		for i := range far {
			far[i] = someAny(r)
		}
		askRanking(t, near)
		askRanking(t, far)
	}
}

// TestP12_4StayAsTheyWere: the scores, and the room behind them, stay; two answers share nothing.
func TestP12_4StayAsTheyWere(t *testing.T) {
	room := []api.Score{{Points: 1}, {Points: 5, Outs: 2}, {Points: 5, Outs: 1}, {Points: 5, Outs: 1, Hits: 3}, {Points: 77}, {Hits: -1}}
	before := slices.Clone(room)
	l := room[:4]
	first, _ := score.Ranking(l)
	second, _ := score.Ranking(l)
	if !slices.Equal(room, before) {
		t.Errorf("changed: %+v", room)
	}
	for i := range first[:cap(first)] {
		first[:cap(first)][i] = -9
	}
	if !slices.Equal(second, []int{3, 2, 1, 0}) || !slices.Equal(room, before) {
		t.Errorf("shared: %v, %+v", second, room)
	}
	if third, _ := score.Ranking(l); !slices.Equal(third, []int{3, 2, 1, 0}) {
		t.Errorf("kept: %v", third)
	}
	clear(l)
	if !slices.Equal(second, []int{3, 2, 1, 0}) {
		t.Errorf("the answer hangs on the list: %v", second)
	}
}
