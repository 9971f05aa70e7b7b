package hit_test

import (
	"math"
	"math/rand"
	"slices"
	"testing"

	"echelon/api"
	"echelon/hit"
	"echelon/mover"
	"echelon/pickup"
)

// lie are pickups at spots, whose numbers rise.
func lie(spots ...int) []api.Pickup {
	var l []api.Pickup
	for i, spot := range spots {
		l = append(l, api.Pickup{No: 3*i + 1, Spot: spot, Kind: i%3 + 1})
	}
	return l
}

// points are n of them, the same one each.
func points(n, x, y int) []api.Point {
	var l []api.Point
	for range n {
		l = append(l, at(x, y))
	}
	return l
}

// upTo are the numbers below n.
func upTo(n int) []int {
	var l []int
	for i := range n {
		l = append(l, i)
	}
	return l
}

// spoiltPickups are pickups that may not lie together, and the number of their spots.
type spoiltPickups struct {
	name  string
	l     []api.Pickup
	spots int
}

func allSpoiltPickups() []spoiltPickups {
	set := func(place int, p api.Pickup) []api.Pickup { return with(lie(0, 1, 2), place, p) }
	all := []spoiltPickups{
		{"17 points", nil, 17}, {"17 points for one", lie(0), 17}, {"300 points", lie(0, 1), 300}, {"9 pickups", lie(upTo(9)...), 9}, {"9 pickups, 16 points", lie(upTo(9)...), 16}, {"17 of both", lie(upTo(17)...), 17},
		{"no point", lie(0), 0}, {"one point too few", lie(0, 1, 2), 2}, {"a spot beyond the points", lie(1), 1}, {"the 17th spot", lie(16), 16}, {"a spot below nought", lie(-1), 4},
		{"the least spot", lie(math.MinInt), 4}, {"the greatest spot", lie(math.MaxInt), 4}, {"the same spot", lie(1, 1), 4}, {"the same spot, apart", lie(2, 0, 2), 4}, {"a pickup of noughts", make([]api.Pickup, 1), 4},
	}
	for place := range 3 {
		for _, no := range []int{math.MinInt, -1, 0, mostNo + 1, math.MaxInt} {
			all = append(all, spoiltPickups{"No", set(place, api.Pickup{No: no, Spot: place, Kind: 1}), 4})
		}
		for _, kind := range []int{math.MinInt, -1, 0, 4, math.MaxInt} {
			all = append(all, spoiltPickups{"Kind", set(place, api.Pickup{No: 3*place + 1, Spot: place, Kind: kind}), 4})
		}
		for _, spot := range []int{math.MinInt, -1, 4, math.MaxInt} {
			all = append(all, spoiltPickups{"Spot", set(place, api.Pickup{No: 3*place + 1, Spot: spot, Kind: 1}), 4})
		}
	}
	return append(all,
		spoiltPickups{"the same number", set(1, api.Pickup{No: 1, Spot: 1, Kind: 1}), 4}, spoiltPickups{"the same last number", set(2, api.Pickup{No: 4, Spot: 2, Kind: 1}), 4},
		spoiltPickups{"a falling number", set(2, api.Pickup{No: 3, Spot: 2, Kind: 1}), 4}, spoiltPickups{"a great first number", set(0, api.Pickup{No: mostNo, Spot: 0, Kind: 1}), 4})
}

// meantIn is a number as it counts, within the bounds.
func meantIn(n int) int { return max(-bound, min(bound, n)) }

// meantPickups is P11.4, word by word.
func meantPickups(l []api.Mover, pickups []api.Pickup, spots []api.Point) ([]api.Meet, api.Errno) {
	if !meantTogether(l) || pickup.Check(pickups, len(spots)) != api.OK {
		return nil, 110
	}
	var all []api.Meet
	for i, p := range pickups {
		spot := at(meantIn(spots[p.Spot].X), meantIn(spots[p.Spot].Y))
		least := -1
		for place := len(l) - 1; place >= 0; place-- {
			if l[place].Out == 0 && meantOverlap(l[place].At, 1280, spot, 768) {
				least = place
			}
		}
		if least >= 0 {
			all = append(all, api.Meet{A: i, B: least})
		}
	}
	return all, api.OK
}

func askPickups(t *testing.T, l []api.Mover, pickups []api.Pickup, spots []api.Point) {
	t.Helper()
	want, wantErrno := meantPickups(l, pickups, spots)
	if got, e := hit.Pickups(l, pickups, spots); !slices.Equal(got, want) || e != wantErrno {
		t.Errorf("Pickups(%+v, %v, %v): %v %d, not %v %d", l, pickups, spots, got, e, want, wantErrno)
	}
}

// wantPickups asks for an answer without an error.
func wantPickups(t *testing.T, name string, l []api.Mover, pickups []api.Pickup, spots []api.Point, ab ...int) {
	t.Helper()
	got, e := hit.Pickups(l, pickups, spots)
	wantMeets(t, name, got, e, ab...)
}

func TestP11_4Examples(t *testing.T) {
	l := []api.Mover{mover.Start(at(0, 0), 0), mover.Start(at(2560, 0), 0)}
	wantPickups(t, "both there", l, lie(0), []api.Point{at(2048, 0)}, 0, 0)
	wantPickups(t, "none there", l, lie(0), []api.Point{at(4609, 0)})
	wantPickups(t, "the second one there", l, lie(0), []api.Point{at(4608, 0)}, 0, 1)
	wantPickups(t, "the second one there", l, lie(0), []api.Point{at(2049, 0)}, 0, 1)
}

func TestP11_4HowMany(t *testing.T) {
	for n := range 7 {
		for many := range 17 {
			for k := range min(many, 8) + 1 {
				var want []int
				for i := range k {
					if n > 0 {
						want = append(want, i, 0)
					}
				}
				wantPickups(t, "on a heap", heap(n), lie(upTo(k)...), points(many, 100, -100), want...)
			}
		}
	}
	wantPickups(t, "nothing", nil, nil, nil)
	wantPickups(t, "nothing", []api.Mover{}, []api.Pickup{}, []api.Point{})
	wantPickups(t, "no mover", nil, lie(0), points(1, 0, 0))
	wantPickups(t, "no pickup", heap(6), nil, points(16, 100, -100))
	wantPickups(t, "the last of 16 points", heap(2), lie(15), points(16, 100, -100), 0, 0)
}

func TestP11_4Spoilt(t *testing.T) {
	for _, l := range spoiltLists() {
		for _, k := range []int{0, 1, 8} {
			got, e := hit.Pickups(l, lie(upTo(k)...), points(8, 100, -100))
			wantNone(t, "movers that may not be", got, e)
		}
		got, e := hit.Pickups(l, nil, nil)
		wantNone(t, "movers that may not be, without points", got, e)
	}
	for _, s := range allSpoiltPickups() {
		for n := range 8 {
			got, e := hit.Pickups(heap(n), s.l, points(s.spots, 100, -100))
			wantNone(t, s.name, got, e)
		}
	}
}

// TestP11_4Edges has a pickup beside a body, as far as both touch and one part nearer and further.
func TestP11_4Edges(t *testing.T) {
	offsets := []int{-70000, -2561, -2049, -2048, -2047, -1280, -1, 0, 1, 768, 2047, 2048, 2049, 2561, 70000}
	for _, middle := range []api.Point{at(0, 0), at(6144, -999), at(bound-80000, 80000-bound)} {
		for _, x := range offsets {
			for _, y := range offsets {
				var want []int
				if -2048 <= x && x <= 2048 && -2048 <= y && y <= 2048 {
					want = []int{0, 0}
				}
				wantPickups(t, "beside a body", []api.Mover{in(middle.X, middle.Y)}, lie(0), []api.Point{at(middle.X+x, middle.Y+y)}, want...)
			}
		}
	}
}

// TestP11_4Bounds: a spot may be anywhere; beyond the bounds it counts as it is within them.
func TestP11_4Bounds(t *testing.T) {
	for _, c := range []struct {
		m    api.Mover
		spot api.Point
		is   bool
	}{
		{in(bound, 0), at(bound, 0), true}, {in(bound, 0), at(bound-2048, 0), true}, {in(bound, 0), at(bound-2049, 0), false}, {in(bound-2048, 0), at(bound, 0), true}, {in(bound-2049, 0), at(bound, 0), false},
		{in(0, -bound), at(0, -bound), true}, {in(0, -bound), at(0, 2048-bound), true}, {in(0, -bound), at(0, 2049-bound), false}, {in(0, 2048-bound), at(0, -bound), true}, {in(0, 2049-bound), at(0, -bound), false},
		{in(bound-2048, 0), at(bound+1, 0), true}, {in(bound-2049, 0), at(bound+1, 0), false}, {in(bound-2048, 0), at(math.MaxInt, 0), true}, {in(bound-2049, 0), at(math.MaxInt, 0), false},
		{in(0, 2048-bound), at(0, math.MinInt), true}, {in(0, 2049-bound), at(0, math.MinInt), false}, {in(bound, -bound), at(math.MaxInt, math.MinInt), true},
		{in(bound, 0), at(math.MinInt, 0), false}, {in(0, bound), at(0, math.MinInt), false}, {in(-bound, 0), at(math.MaxInt, 0), false},
	} {
		var want []int
		if c.is {
			want = []int{0, 0}
		}
		wantPickups(t, "at the bounds", []api.Mover{c.m}, lie(0), []api.Point{c.spot}, want...)
	}
}

func TestP11_4Out(t *testing.T) {
	i, o := in(0, 0), out(0, 0)
	for _, c := range []struct {
		name string
		l    []api.Mover
		want []int
	}{
		{"two there", []api.Mover{i, i}, []int{0, 0}}, {"the lesser one out", []api.Mover{o, i}, []int{0, 1}}, {"the greater one out", []api.Mover{i, o}, []int{0, 0}}, {"both out", []api.Mover{o, o}, nil}, {"the only one out", []api.Mover{o}, nil},
		{"two out ahead", []api.Mover{o, o, i, i}, []int{0, 2}}, {"all but the last one", []api.Mover{o, o, o, o, o, i}, []int{0, 5}}, {"all", []api.Mover{o, o, o, o, o, o}, nil},
		{"the lesser one elsewhere", []api.Mover{in(9000, 0), i}, []int{0, 1}}, {"the lesser one out, the other one elsewhere", []api.Mover{o, in(9000, 0)}, nil},
	} {
		wantPickups(t, c.name, c.l, lie(0), points(1, 0, 0), c.want...)
	}
}

// TestP11_4Several: pickups are told by their places in the list, and lie where their spots say.
func TestP11_4Several(t *testing.T) {
	spots := []api.Point{at(0, 0), at(9000, 0), at(18000, 0), at(27000, 0)}
	l := []api.Mover{in(18000, 0), in(0, 0)}
	wantPickups(t, "in the spots' order", l, lie(0, 1, 2, 3), spots, 0, 1, 2, 0)
	wantPickups(t, "the other way round", l, lie(3, 2, 1, 0), spots, 1, 0, 3, 1)
	wantPickups(t, "some", l, lie(2, 0), spots, 0, 0, 1, 1)
	wantPickups(t, "two that one takes", []api.Mover{out(0, 0), in(4500, 0)}, lie(1, 0), []api.Point{at(2500, 0), at(6500, 0)}, 0, 1, 1, 1)
}

func TestP11_4Some(t *testing.T) {
	r := rand.New(rand.NewSource(114))
	for range 50000 {
		near := someNear(r)
		var spots []api.Point
		for range r.Intn(18) {
			spots = append(spots, at(near.X+someAside(r), near.Y+someAside(r)))
		}
		pickups := lie(r.Perm(len(spots))[:r.Intn(min(len(spots), 8)+1)]...)
		askPickups(t, someMovers(r, near), pickups, spots)
	}
}

func TestP11_4StayAsTheyWere(t *testing.T) {
	for n := range 8 {
		for k := range 10 {
			movers, pickups, spots := append(heap(n), in(1, 2)), append(lie(upTo(k)...), api.Pickup{No: 99, Spot: 15, Kind: 1}), append(points(k, 100, -100), at(100, -100))
			moversBefore, pickupsBefore, spotsBefore := slices.Clone(movers), slices.Clone(pickups), slices.Clone(spots)
			got, e := hit.Pickups(movers[:n], pickups[:k], spots[:k])
			if !slices.Equal(movers, moversBefore) || !slices.Equal(pickups, pickupsBefore) || !slices.Equal(spots, spotsBefore) {
				t.Errorf("%d movers and %d pickups have become %+v %v %v", n, k, movers, pickups, spots)
			}
			clear(movers)
			clear(pickups)
			clear(spots)
			kept := slices.Clone(got)
			again, againErrno := hit.Pickups(heap(n), lie(upTo(k)...), points(k, 100, -100))
			clear(again[:cap(again)])
			if !slices.Equal(got, kept) || e != againErrno {
				t.Errorf("%d movers and %d pickups: %v has become %v", n, k, kept, got)
			}
			askPickups(t, heap(n), lie(upTo(k)...), points(k, 100, -100))
		}
	}
}
