package view_test

import (
	"fmt"
	"math"
	"testing"

	"echelon/api"
	"echelon/score"
	"echelon/view"
)

func TestP23_4None(t *testing.T) {
	for _, l := range [][]api.Score{nil, {}} {
		text, e := view.Table(l)
		tells(t, "none", text, e)
	}
}

func TestP23_4One(t *testing.T) {
	text, e := view.Table([]api.Score{{Points: -4, Hits: 3, Outs: 2, Streak: 1}})
	tells(t, "one", text, e, "1 A points -4 hits 3 outs 2 streak 1")
}

// TestP23_4Six: the best first; of equal ones the lesser seat.
func TestP23_4Six(t *testing.T) {
	text, e := view.Table([]api.Score{
		{Points: 5, Hits: 10, Outs: 20, Streak: 30},
		{Points: -2147483647, Hits: 11, Outs: 21, Streak: 31},
		{Points: 2147483647, Hits: 2147483647, Outs: 2147483647, Streak: 2147483647},
		{Points: 5, Hits: 13, Outs: 20, Streak: 33},
		{Points: 0, Hits: 0, Outs: 0, Streak: 0},
		{Points: 5, Hits: 10, Outs: 19, Streak: 35},
	})
	tells(t, "six", text, e,
		"1 C points 2147483647 hits 2147483647 outs 2147483647 streak 2147483647",
		"2 F points 5 hits 10 outs 19 streak 35",
		"3 D points 5 hits 13 outs 20 streak 33",
		"4 A points 5 hits 10 outs 20 streak 30",
		"5 E points 0 hits 0 outs 0 streak 0",
		"6 B points -2147483647 hits 11 outs 21 streak 31",
	)
}

func TestP23_4Equal(t *testing.T) {
	for n := range 7 {
		var l []api.Score
		var want []string
		for i := range n {
			l = append(l, api.Score{Points: 3, Hits: 2, Outs: 1, Streak: 4})
			want = append(want, fmt.Sprintf("%d %c points 3 hits 2 outs 1 streak 4", i+1, 'A'+i))
		}
		text, e := view.Table(l)
		tells(t, "equal ones", text, e, want...)
	}
}

// TestP23_4Refused: more than six, and one that may not be, at each place.
func TestP23_4Refused(t *testing.T) {
	for _, n := range []int{7, 8, 100} {
		text, e := view.Table(make([]api.Score, n))
		refused(t, fmt.Sprintf("%d scores", n), text, e)
	}
	for _, bad := range []api.Score{{Points: bound + 1}, {Points: -bound - 1}, {Points: math.MinInt}, {Points: math.MaxInt}, {Hits: -1}, {Hits: bound + 1}, {Outs: -1}, {Outs: bound + 1}, {Streak: -1}, {Streak: bound + 1}, {Streak: math.MinInt}} {
		for n := 1; n <= 8; n++ {
			for place := range n {
				l := make([]api.Score, n)
				l[place] = bad
				if _, e := score.Ranking(l); e == api.OK {
					t.Fatalf("%+v may be", l)
				}
				text, e := view.Table(l)
				refused(t, fmt.Sprintf("%+v", l), text, e)
			}
		}
	}
	text, e := view.Table(make([]api.Score, 6))
	if e != api.OK || len(lines(t, text)) != 6 {
		t.Errorf("of six: %q %d", text, e)
	}
}

// prints holds counters to be told so.
func prints(t *testing.T, c api.Counters, want string) {
	t.Helper()
	if got := view.Print(c); got != want {
		t.Errorf("Print(%+v): %q, meant %q", c, got, want)
	}
}

func TestP23_5EachItsOwn(t *testing.T) {
	prints(t, api.Counters{Ticks: 1, Stalls: 2, Steps: 3, Copies: 4, Late: 5, Sent: 6, Got: 7, Refused: 8, Accepted: 9}, "ticks 1 stalls 2 steps 3 copies 4 late 5 sent 6 got 7 refused 8 accepted 9")
	prints(t, api.Counters{Ticks: -9, Stalls: -8, Steps: -7, Copies: -6, Late: -5, Sent: -4, Got: -3, Refused: -2, Accepted: -1}, "ticks -9 stalls -8 steps -7 copies -6 late -5 sent -4 got -3 refused -2 accepted -1")
}

// TestP23_5Ends: each counter by itself at each number, the others 0.
func TestP23_5Ends(t *testing.T) {
	words := []string{"ticks", "stalls", "steps", "copies", "late", "sent", "got", "refused", "accepted"}
	for _, n := range ints {
		for which, word := range words {
			var c api.Counters
			*[]*int{&c.Ticks, &c.Stalls, &c.Steps, &c.Copies, &c.Late, &c.Sent, &c.Got, &c.Refused, &c.Accepted}[which] = n
			want := ""
			for i, other := range words {
				if i > 0 {
					want += " "
				}
				if other == word {
					want += fmt.Sprintf("%s %d", other, n)
				} else {
					want += other + " 0"
				}
			}
			prints(t, c, want)
		}
	}
	low, high := math.MinInt, math.MaxInt
	prints(t, api.Counters{Ticks: low, Stalls: high, Steps: low, Copies: high, Late: low, Sent: high, Got: low, Refused: high, Accepted: low},
		"ticks -9223372036854775808 stalls 9223372036854775807 steps -9223372036854775808 copies 9223372036854775807 late -9223372036854775808 sent 9223372036854775807 got -9223372036854775808 refused 9223372036854775807 accepted -9223372036854775808")
}
