package view_test

import (
	"math"
	"math/big"
	"slices"
	"testing"

	"echelon/api"
	"echelon/view"
)

// corrects holds two worlds to be told apart by just these.
func corrects(t *testing.T, before, after api.World, want ...api.Correction) {
	t.Helper()
	if got, e := view.Correct(before, after); !slices.Equal(got, want) || e != api.OK {
		t.Errorf("Correct(%+v, %+v): %+v %d, meant %+v", before, after, got, e, want)
	}
}

// sized is a world with so many movers and scores, all noughts.
func sized(movers, scores int) api.World {
	return api.World{Movers: make([]api.Mover, movers), Scores: make([]api.Score, scores)}
}

// plain is a world of so many seats with numbers of their own, though none that may be.
func plain(n int) api.World {
	w := sized(n, n)
	for seat := range n {
		w.Movers[seat] = api.Mover{At: at(100*seat, -200*seat), Health: 7 * seat, Energy: -seat, Out: 99}
		w.Scores[seat] = api.Score{Points: -3 * seat, Hits: -1}
	}
	return w
}

// TestP23_2Sizes: each number of Movers and of Scores, on both sides.
func TestP23_2Sizes(t *testing.T) {
	for n := range 4 * 4 * 4 * 4 {
		a, b, c, d := n&3, n>>2&3, n>>4&3, n>>6
		got, e := view.Correct(sized(a, b), sized(c, d))
		want := api.Errno(230)
		if a == b && b == c && c == d {
			want = 0
		}
		if len(got) != 0 || e != want {
			t.Errorf("of %d and %d, %d and %d: %v %d, meant %d", a, b, c, d, got, e, want)
		}
	}
}

// TestP23_2RefusedThoughOther: what differs does not come along with a refusal.
func TestP23_2RefusedThoughOther(t *testing.T) {
	for _, n := range []int{1, 2, 6} {
		less := func(w api.World, movers, scores int) api.World {
			return api.World{Movers: w.Movers[:n-movers], Scores: w.Scores[:n-scores]}
		}
		before, after := plain(n), sized(n, n)
		for cut := range 16 {
			a, b := less(before, cut&1, cut>>1&1), less(after, cut>>2&1, cut>>3)
			got, e := view.Correct(a, b)
			if same := cut == 0 || cut == 15; same != (e == api.OK) || !same && (len(got) != 0 || e != 230) {
				t.Errorf("of %d, %04b: %v %d", n, cut, got, e)
			}
		}
	}
}

// TestP23_2NilAndEmpty: lists that are nil, and such as are empty, are the same.
func TestP23_2NilAndEmpty(t *testing.T) {
	empty := sized(0, 0)
	mixed := api.World{Movers: []api.Mover{}}
	for _, a := range []api.World{{}, empty, mixed} {
		for _, b := range []api.World{{}, empty, mixed} {
			corrects(t, a, b)
		}
		for _, full := range []api.World{plain(1), plain(2), sized(0, 1), sized(1, 0)} {
			for _, pair := range [][2]api.World{{a, full}, {full, a}} {
				if got, e := view.Correct(pair[0], pair[1]); len(got) != 0 || e != 230 {
					t.Errorf("Correct(%+v, %+v): %v %d", pair[0], pair[1], got, e)
				}
			}
		}
	}
}

// TestP23_2OneAlone: where one number alone is another one, at each seat, in worlds of one to more than there may be.
func TestP23_2OneAlone(t *testing.T) {
	for n := 1; n <= 9; n++ {
		for seat := range n {
			before := plain(n)
			from := before.Movers[seat]
			base := api.Correction{Peer: seat, Before: from.At, After: from.At}

			after := own(before)
			after.Movers[seat].At.X++
			x := base
			x.After.X++
			corrects(t, before, after, x)
			x.Before, x.After = x.After, x.Before
			corrects(t, after, before, x)

			after = own(before)
			after.Movers[seat].At.Y -= 5
			x = base
			x.After.Y -= 5
			corrects(t, before, after, x)

			after = own(before)
			after.Movers[seat].Health -= 45
			x = base
			x.Health = -45
			corrects(t, before, after, x)
			x.Health = 45
			corrects(t, after, before, x)

			after = own(before)
			after.Scores[seat].Points += 10
			x = base
			x.Points = 10
			corrects(t, before, after, x)
			x.Points = -10
			corrects(t, after, before, x)

			corrects(t, before, own(before))
		}
	}
}

// TestP23_2Several: by seats, those that are others alone.
func TestP23_2Several(t *testing.T) {
	before := plain(6)
	after := own(before)
	after.Movers[5].At = at(1, 2)
	after.Movers[5].Health = 100
	after.Scores[5].Points = -100
	after.Scores[3].Points++
	after.Movers[0].Health++
	after.Scores[0].Points--
	after.Movers[1].At = at(before.Movers[1].At.Y, before.Movers[1].At.X)
	corrects(t, before, after,
		api.Correction{Peer: 0, Before: at(0, 0), After: at(0, 0), Health: 1, Points: -1},
		api.Correction{Peer: 1, Before: at(100, -200), After: at(-200, 100)},
		api.Correction{Peer: 3, Before: at(300, -600), After: at(300, -600), Points: 1},
		api.Correction{Peer: 5, Before: at(500, -1000), After: at(1, 2), Health: 65, Points: -85},
	)
	// What differs the other way round at another seat makes nothing up.
	after = own(before)
	after.Movers[2].Health, after.Movers[4].Health = before.Movers[2].Health+3, before.Movers[4].Health-3
	corrects(t, before, after,
		api.Correction{Peer: 2, Before: at(200, -400), After: at(200, -400), Health: 3},
		api.Correction{Peer: 4, Before: at(400, -800), After: at(400, -800), Health: -3},
	)
	after = own(before)
	after.Movers[2].Health, after.Scores[2].Points = before.Movers[2].Health+3, before.Scores[2].Points-3
	corrects(t, before, after, api.Correction{Peer: 2, Before: at(200, -400), After: at(200, -400), Health: 3, Points: -3})
}

// TestP23_2OfMany: the number of seats has no bound here.
func TestP23_2OfMany(t *testing.T) {
	before := plain(5000)
	after := own(before)
	after.Movers[4999].Health++
	after.Movers[7].Health--
	corrects(t, before, after,
		api.Correction{Peer: 7, Before: before.Movers[7].At, After: before.Movers[7].At, Health: -1},
		api.Correction{Peer: 4999, Before: before.Movers[4999].At, After: before.Movers[4999].At, Health: 1},
	)
}

// TestP23_2WhatIsNotAsked: all else of a world may be another one.
func TestP23_2WhatIsNotAsked(t *testing.T) {
	before := plain(2)
	after := own(before)
	m, s := &after.Movers[1], &after.Scores[1]
	m.Speed, m.Push, m.Facing, m.Energy, m.Shield, m.Cool, m.Out, m.Said = at(1, 2), at(3, 4), 5, 6, true, 7, 8, 9
	s.Hits, s.Outs, s.Streak = 10, 11, 12
	after.Frame, after.NextNo = 13, 14
	after.Shots, after.Pickups = make([]api.Shot, 3), make([]api.Pickup, 4)
	corrects(t, before, after)
	corrects(t, after, before)
	after.Scores[0].Points = 1
	corrects(t, before, after, api.Correction{Peer: 0, Points: 1})
}

// wrapped is a difference as it is in 64 bits.
func wrapped(to, from int) int {
	n := new(big.Int).Sub(big.NewInt(int64(to)), big.NewInt(int64(from)))
	n.And(n, new(big.Int).SetUint64(math.MaxUint64))
	return int(n.Uint64())
}

// TestP23_2Ends: numbers at the ends of int, whose differences wrap round.
func TestP23_2Ends(t *testing.T) {
	for _, from := range ints {
		for _, to := range ints {
			var want []api.Correction
			if from != to {
				want = []api.Correction{{Peer: 1, Before: at(from, 8), After: at(to, 8), Health: wrapped(to, from), Points: wrapped(from, to)}}
			}
			before, after := sized(2, 2), sized(2, 2)
			before.Movers[1], after.Movers[1] = api.Mover{At: at(from, 8), Health: from}, api.Mover{At: at(to, 8), Health: to}
			before.Scores[1].Points, after.Scores[1].Points = to, from
			corrects(t, before, after, want...)
		}
	}
	before, after := sized(1, 1), sized(1, 1)
	before.Movers[0].Health, after.Movers[0].Health = math.MinInt, math.MaxInt
	corrects(t, before, after, api.Correction{Health: -1})
	corrects(t, after, before, api.Correction{Health: 1})
	after.Movers[0].Health = 0
	corrects(t, before, after, api.Correction{Health: math.MinInt})
}
