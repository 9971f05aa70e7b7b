package pickup_test

import (
	"math"
	"math/rand"
	"slices"
	"testing"

	"echelon/api"
	"echelon/pickup"
)

const (
	mostNo    = 1099511627776
	mostFrame = 1099511627776
)

// one is a pickup.
func one(no, spot, kind int) api.Pickup { return api.Pickup{No: no, Spot: spot, Kind: kind} }

// row are n pickups that may lie together, at the spots 0 to n - 1.
func row(n int) []api.Pickup {
	var l []api.Pickup
	for i := range n {
		l = append(l, one(10*i+1, i, i%3+1))
	}
	return l
}

// with is a list in which one pickup is changed.
func with(l []api.Pickup, at int, change func(p *api.Pickup)) []api.Pickup {
	l = slices.Clone(l)
	change(&l[at])
	return l
}

// field is one of a pickup's numbers, and what it may be in an arena of so many spots.
type field struct {
	name        string
	least, most int
	set         func(p *api.Pickup, n int)
}

func fields(spots int) []field {
	return []field{
		{"No", 1, mostNo, func(p *api.Pickup, n int) { p.No = n }},
		{"Spot", 0, spots - 1, func(p *api.Pickup, n int) { p.Spot = n }},
		{"Kind", 1, 3, func(p *api.Pickup, n int) { p.Kind = n }},
	}
}

// around are the numbers at a field's ends and beyond them.
func (f field) around() []int {
	return []int{math.MinInt, math.MinInt + 1, -1 << 32, f.least - 1, f.least, f.least + 1, -1, 0, 1, f.most - 1, f.most, f.most + 1, 1 << 32, math.MaxInt - 1, math.MaxInt}
}

// meantCheck is P10.1, word by word.
func meantCheck(l []api.Pickup, spots int) api.Errno {
	if spots < 0 || spots > 16 || len(l) > 8 {
		return 100
	}
	for i, p := range l {
		if p.No < 1 || p.No > mostNo || p.Spot < 0 || p.Spot > spots-1 || p.Kind < 1 || p.Kind > 3 {
			return 100
		}
		if i > 0 && p.No <= l[i-1].No {
			return 100
		}
		for j, other := range l {
			if j != i && other.Spot == p.Spot {
				return 100
			}
		}
	}
	return api.OK
}

func askCheck(t *testing.T, l []api.Pickup, spots int) {
	t.Helper()
	if got, want := pickup.Check(l, spots), meantCheck(l, spots); got != want {
		t.Errorf("Check(%v, %d): %d, not %d", l, spots, got, want)
	}
}

// someIn is a number of a range, often at its ends.
func someIn(r *rand.Rand, least, most int) int {
	switch r.Intn(6) {
	case 0:
		return least
	case 1:
		return most
	case 2:
		return min(least+1, most)
	}
	return least + r.Intn(most-least+1)
}

// someLying are pickups that may lie together in an arena of so many spots.
func someLying(r *rand.Rand, spots int) []api.Pickup {
	var l []api.Pickup
	no := 0
	for _, spot := range r.Perm(spots)[:r.Intn(min(spots, 8)+1)] {
		no += someIn(r, 1, 1<<r.Intn(37))
		l = append(l, one(no, spot, someIn(r, 1, 3)))
	}
	if len(l) > 0 && r.Intn(4) == 0 {
		l[len(l)-1].No = mostNo
	}
	return l
}

// spoilt are pickups that may not lie together, each for another reason, and the number of their spots.
type spoilt struct {
	name  string
	l     []api.Pickup
	spots int
}

func allSpoilt() []spoilt {
	set := func(at, no, spot, kind int) []api.Pickup {
		return with(row(4), at, func(p *api.Pickup) { *p = one(no, spot, kind) })
	}
	l := []spoilt{
		{"spots -1", nil, -1}, {"spots 17", nil, 17}, {"the least spots", nil, math.MinInt}, {"the greatest spots", nil, math.MaxInt},
		{"spots -1 for one", row(1), -1}, {"spots 17 for 8", row(8), 17},
		{"9", row(9), 16}, {"10", row(10), 16}, {"17", row(17), 16}, {"300", row(300), 16},
		{"one without a spot", row(1), 0}, {"the last one's spot", row(4), 3}, {"a pickup of noughts", make([]api.Pickup, 1), 4},
		{"the same numbers, next to each other", set(2, 11, 2, 1), 4}, {"the same numbers, apart", set(3, 11, 3, 1), 4},
		{"the same numbers, first and last", set(3, 1, 3, 1), 4}, {"a falling number", set(2, 5, 2, 1), 4}, {"a falling last number", set(3, 20, 3, 1), 4},
		{"a great first number", set(0, 99, 0, 1), 4}, {"the greatest number ahead", set(0, mostNo, 0, 1), 4},
		{"the same spots, next to each other", set(1, 11, 0, 1), 4}, {"the same spots, apart", set(2, 21, 0, 1), 4},
		{"the same spots, first and last", set(3, 31, 0, 1), 4}, {"the same spots, at the end", set(3, 31, 2, 1), 4},
	}
	for _, f := range fields(4) {
		for _, n := range f.around() {
			for place := range 4 {
				if n < f.least || n > f.most {
					l = append(l, spoilt{f.name, with(row(4), place, func(p *api.Pickup) { f.set(p, n) }), 4})
				}
			}
		}
	}
	return l
}

func TestP10_1Examples(t *testing.T) {
	for _, c := range []struct {
		l     []api.Pickup
		spots int
		want  api.Errno
	}{
		{nil, 0, api.OK},
		{[]api.Pickup{}, 0, api.OK},
		{[]api.Pickup{one(1, 0, 1), one(2, 0, 1)}, 4, 100},
		{[]api.Pickup{one(2, 0, 1), one(1, 1, 1)}, 4, 100},
		{[]api.Pickup{one(1, 0, 1), one(2, 1, 1)}, 4, api.OK},
		{[]api.Pickup{one(1, 0, 1)}, 1, api.OK},
		{[]api.Pickup{one(1, 3, 3), one(2, 0, 2), one(mostNo, 2, 1)}, 4, api.OK},
		{row(1), 16, api.OK},
		{row(8), 8, api.OK},
		{row(8), 16, api.OK},
		{row(8), 7, 100},
		{row(9), 16, 100},
	} {
		if got := pickup.Check(c.l, c.spots); got != c.want {
			t.Errorf("Check(%v, %d): %d, not %d", c.l, c.spots, got, c.want)
		}
	}
}

func TestP10_1Spoilt(t *testing.T) {
	for _, s := range allSpoilt() {
		if got := pickup.Check(s.l, s.spots); got != 100 {
			t.Errorf("%s: Check(%v, %d): %d", s.name, s.l, s.spots, got)
		}
	}
}

func TestP10_1Spots(t *testing.T) {
	for _, spots := range []int{math.MinInt, math.MinInt + 1, -1 << 32, -17, -16, -2, -1, 0, 1, 2, 8, 15, 16, 17, 18, 32, 1<<32 + 4, math.MaxInt - 1, math.MaxInt} {
		want := api.Errno(100)
		if spots >= 0 && spots <= 16 {
			want = api.OK
		}
		if got := pickup.Check(nil, spots); got != want {
			t.Errorf("Check(none, %d): %d, not %d", spots, got, want)
		}
	}
	for spots := -20; spots <= 40; spots++ {
		for n := range 20 {
			askCheck(t, row(n), spots)
		}
	}
}

// TestP10_1Edges has each number of each pickup at its edges.
func TestP10_1Edges(t *testing.T) {
	for spots := range 17 {
		for n := range min(spots, 8) + 1 {
			for at := range n {
				for _, f := range fields(spots) {
					for _, number := range f.around() {
						askCheck(t, with(row(n), at, func(p *api.Pickup) { f.set(p, number) }), spots)
					}
				}
			}
		}
	}
}

// TestP10_1EdgesOfOne: of a single pickup just its own ranges count.
func TestP10_1EdgesOfOne(t *testing.T) {
	for spots := 1; spots <= 16; spots++ {
		for _, f := range fields(spots) {
			for _, n := range f.around() {
				want := api.Errno(100)
				if f.least <= n && n <= f.most {
					want = api.OK
				}
				if got := pickup.Check(with(row(1), 0, func(p *api.Pickup) { f.set(p, n) }), spots); got != want {
					t.Errorf("%s %d of %d spots: %d, not %d", f.name, n, spots, got, want)
				}
			}
		}
	}
}

// TestP10_1Two has each two of a few pickups, such as may lie and such as may not.
func TestP10_1Two(t *testing.T) {
	var some []api.Pickup
	for no := range 4 {
		for spot := -1; spot <= 2; spot++ {
			for kind := range 5 {
				some = append(some, one(no, spot, kind))
			}
		}
	}
	for _, a := range some {
		for spots := range 4 {
			askCheck(t, []api.Pickup{a}, spots)
			for _, b := range some {
				askCheck(t, []api.Pickup{a, b}, spots)
			}
		}
	}
}

// TestP10_1Three has each three of numbers and spots, so that two alike are next to each other and apart.
func TestP10_1Three(t *testing.T) {
	for n := range 27 * 27 {
		l := []api.Pickup{one(n%3+1, n/27%3, 1), one(n/3%3+1, n/81%3, 2), one(n/9%3+1, n/243%3, 3)}
		askCheck(t, l, 3)
	}
}

// TestP10_1Alike has two numbers, and two spots, alike at any two places of a full list.
func TestP10_1Alike(t *testing.T) {
	for i := range 8 {
		for j := range 8 {
			if i == j {
				continue
			}
			for name, l := range map[string][]api.Pickup{
				"No":   with(row(8), i, func(p *api.Pickup) { p.No = row(8)[j].No }),
				"Spot": with(row(8), i, func(p *api.Pickup) { p.Spot = row(8)[j].Spot }),
			} {
				if got := pickup.Check(l, 16); got != 100 {
					t.Errorf("%s of %d as of %d: %d", name, i, j, got)
				}
			}
		}
	}
}

func TestP10_1Some(t *testing.T) {
	r := rand.New(rand.NewSource(101))
	for range 100000 {
		spots := someIn(r, 0, 16)
		l := someLying(r, spots)
		if got := pickup.Check(l, spots); got != api.OK {
			t.Errorf("Check(%v, %d): %d", l, spots, got)
		}
		if len(l) == 0 {
			continue
		}
		some := fields(spots)
		f := some[r.Intn(len(some))]
		other := with(l, r.Intn(len(l)), func(p *api.Pickup) { f.set(p, f.least-1+r.Intn(f.most-f.least+3)) })
		askCheck(t, other, spots)
		askCheck(t, other, spots-1)
	}
}
