package geom_test

import (
	"math"
	"math/rand"
	"testing"

	"echelon/api"
	"echelon/geom"
)

func box(x, y, toX, toY int) api.Box {
	return api.Box{Min: at(x, y), Max: at(toX, toY)}
}

// boxes are all those whose four numbers are of these, also those that may not be.
func boxes(of []int) []api.Box {
	var all []api.Box
	for _, x := range of {
		for _, y := range of {
			for _, toX := range of {
				for _, toY := range of {
					all = append(all, box(x, y, toX, toY))
				}
			}
		}
	}
	return all
}

func grid(of []int) []api.Point {
	var all []api.Point
	for _, x := range of {
		for _, y := range of {
			all = append(all, at(x, y))
		}
	}
	return all
}

// What the words of the chapter say of one axis.

func meantWithin(n int) bool { return n >= -bound && n <= bound }

func meantAxis(least, most int) bool {
	return meantWithin(least) && meantWithin(most) && least <= most
}

func meantMayBe(b api.Box) bool {
	return meantAxis(b.Min.X, b.Max.X) && meantAxis(b.Min.Y, b.Max.Y)
}

func meantHas(b api.Box, p api.Point) bool {
	return meantMayBe(b) && b.Min.X <= p.X && p.X <= b.Max.X && b.Min.Y <= p.Y && p.Y <= b.Max.Y
}

// meantMeet looks through all points of a grid on which the corners of both lie: so the corners of what they have in common lie on it, too.
func meantMeet(a, b api.Box, points []api.Point) (api.Box, bool) {
	var common api.Box
	found := false
	for _, p := range points {
		if !meantHas(a, p) || !meantHas(b, p) {
			continue
		}
		if !found {
			common, found = api.Box{Min: p, Max: p}, true
		}
		common.Min = at(min(common.Min.X, p.X), min(common.Min.Y, p.Y))
		common.Max = at(max(common.Max.X, p.X), max(common.Max.Y, p.Y))
	}
	return common, found
}

func checkCheck(t *testing.T, b api.Box) {
	t.Helper()
	want := api.OK
	if !meantMayBe(b) {
		want = api.ErrGeomBox
	}
	if got := geom.Check(b); got != want {
		t.Fatalf("Check(%v): %d, want %d", b, got, want)
	}
}

func TestP5_4Check(t *testing.T) {
	for _, c := range []struct {
		b    api.Box
		want api.Errno
	}{
		{api.Box{}, api.OK}, {box(0, 0, 4, 4), api.OK}, {box(3, -3, 3, -3), api.OK}, {box(-9, -8, -7, -6), api.OK}, {box(-bound, -bound, bound, bound), api.OK}, {box(bound, bound, bound, bound), api.OK}, {box(-bound, bound, -bound, bound), api.OK},
		{box(1, 0, 0, 0), 50}, {box(0, 1, 0, 0), 50}, {box(1, 1, 0, 0), 50}, {box(0, 0, -1, 5), 50}, {box(0, 0, 5, -1), 50},
		{box(-bound-1, 0, 0, 0), 50}, {box(0, -bound-1, 0, 0), 50}, {box(0, 0, bound+1, 0), 50}, {box(0, 0, 0, bound+1), 50},
		{box(bound+1, 0, bound+1, 0), 50}, {box(0, bound+1, 0, bound+1), 50}, {box(-bound-1, 0, -bound-1, 0), 50}, {box(0, -bound-1, 0, -bound-1), 50},
		{box(math.MinInt, math.MinInt, math.MaxInt, math.MaxInt), 50}, {box(math.MinInt, 0, 0, 0), 50}, {box(0, 0, 0, math.MaxInt), 50}, {box(math.MaxInt, math.MaxInt, math.MinInt, math.MinInt), 50},
	} {
		if got := geom.Check(c.b); got != c.want {
			t.Errorf("Check(%v): %d, want %d", c.b, got, c.want)
		}
	}
	for _, b := range boxes([]int{math.MinInt, -bound - 1, -bound, -1, 0, 1, bound, bound + 1, math.MaxInt}) {
		checkCheck(t, b)
	}
	rnd := rand.New(rand.NewSource(21))
	for range 50000 {
		checkCheck(t, box(someInt(rnd), someInt(rnd), someInt(rnd), someInt(rnd)))
	}
}

// meantAround is P5.4 on one axis; both numbers are so small then that their sum and difference stay true.
func meantAround(n, radius int) (int, int) {
	middle, r := int(meantIn(n).Int64()), meantSize(radius)
	return max(middle-r, -bound), min(middle+r, bound)
}

func TestP5_4Around(t *testing.T) {
	for _, c := range []struct {
		p      api.Point
		radius int
		want   api.Box
	}{
		{at(0, 0), 5, box(-5, -5, 5, 5)}, {at(7, -9), 0, box(7, -9, 7, -9)}, {at(7, -9), 1, box(6, -10, 8, -8)}, {at(7, -9), -1, box(7, -9, 7, -9)}, {at(7, -9), math.MinInt, box(7, -9, 7, -9)},
		{at(0, 0), bound, box(-bound, -bound, bound, bound)}, {at(0, 0), bound + 1, box(-bound, -bound, bound, bound)}, {at(7, -9), bound, box(-bound+7, -bound, bound, bound-9)}, {at(7, -9), bound + 1, box(-bound+7, -bound, bound, bound-9)}, {at(7, -9), math.MaxInt, box(-bound+7, -bound, bound, bound-9)},
		{at(bound, -bound), 3, box(bound-3, -bound, bound, -bound+3)}, {at(1<<40, -1<<40), 3, box(bound-3, -bound, bound, -bound+3)}, {at(math.MinInt, math.MaxInt), 0, box(-bound, bound, -bound, bound)}, {at(math.MinInt, math.MaxInt), math.MaxInt, box(-bound, 0, 0, bound)},
	} {
		if got := geom.Around(c.p, c.radius); got != c.want {
			t.Errorf("Around(%v, %d): %v, want %v", c.p, c.radius, got, c.want)
		}
	}
	rnd := rand.New(rand.NewSource(22))
	for _, p := range points(22, 10000) {
		for _, radius := range append(edges(), someInt(rnd)) {
			x, toX := meantAround(p.X, radius)
			y, toY := meantAround(p.Y, radius)
			if got, want := geom.Around(p, radius), box(x, y, toX, toY); got != want {
				t.Fatalf("Around(%v, %d): %v, want %v", p, radius, got, want)
			}
		}
	}
}

func TestP5_5Inside(t *testing.T) {
	full := box(-bound, -bound, bound, bound)
	for _, c := range []struct {
		b    api.Box
		p    api.Point
		want bool
	}{
		{box(-5, -5, 5, 5), at(5, -5), true}, {box(-5, -5, 5, 5), at(6, 0), false}, {box(-5, -5, 5, 5), at(0, -6), false}, {box(-5, -5, 5, 5), at(-6, 0), false}, {box(-5, -5, 5, 5), at(0, 6), false}, {box(-5, -5, 5, 5), at(0, 0), true},
		{box(3, 4, 3, 4), at(3, 4), true}, {box(3, 4, 3, 4), at(3, 5), false}, {box(3, 4, 3, 4), at(2, 4), false}, {api.Box{}, at(0, 0), true},
		{full, at(bound, bound), true}, {full, at(-bound, -bound), true},
		// A point counts as it is handed in: beyond the bounds no box has it.
		{full, at(bound+1, 0), false}, {full, at(0, bound+1), false}, {full, at(-bound-1, 0), false}, {full, at(0, -bound-1), false}, {full, at(math.MaxInt, 0), false}, {full, at(0, math.MinInt), false},
		// Boxes that may not be have no point.
		{box(5, 0, 0, 9), at(3, 3), false}, {box(0, 9, 5, 0), at(3, 3), false}, {box(-bound-1, 0, 5, 5), at(3, 3), false}, {box(0, -bound-1, 5, 5), at(3, 3), false}, {box(0, 0, bound+1, 5), at(3, 3), false}, {box(0, 0, 5, bound+1), at(3, 3), false}, {box(math.MinInt, math.MinInt, math.MaxInt, math.MaxInt), at(0, 0), false}, {box(bound+1, 0, bound+1, 0), at(bound+1, 0), false}, {box(bound+1, 0, bound+1, 0), at(bound, 0), false},
	} {
		if got := geom.Inside(c.b, c.p); got != c.want {
			t.Errorf("Inside(%v, %v): %v", c.b, c.p, got)
		}
	}
	for _, of := range [][]int{{-1, 0, 1, 2}, {math.MinInt, -bound - 1, -bound, 0, bound, bound + 1, math.MaxInt}} {
		for _, b := range boxes(of) {
			for _, p := range grid(of) {
				if got, want := geom.Inside(b, p), meantHas(b, p); got != want {
					t.Fatalf("Inside(%v, %v): %v", b, p, got)
				}
			}
		}
	}
}

func TestP5_5MeetAndOverlap(t *testing.T) {
	full := box(-bound, -bound, bound, bound)
	for _, c := range []struct {
		a, b, want api.Box
		is         bool
	}{
		{box(0, 0, 4, 4), box(4, 2, 9, 9), box(4, 2, 4, 4), true},   // along a side
		{box(0, 0, 4, 4), box(2, 4, 9, 9), box(2, 4, 4, 4), true},   // along a side
		{box(0, 0, 4, 4), box(4, 4, 9, 9), box(4, 4, 4, 4), true},   // in a point
		{box(0, 0, 4, 4), box(-3, 4, 0, 9), box(0, 4, 0, 4), true},  // in a point
		{box(0, 0, 4, 4), box(5, 0, 9, 9), api.Box{}, false},        // beside it
		{box(0, 0, 4, 4), box(0, 5, 9, 9), api.Box{}, false},        // below it
		{box(0, 0, 4, 4), box(5, 5, 9, 9), api.Box{}, false},        // beyond its corner
		{box(1, 1, 8, 8), box(3, 4, 5, 6), box(3, 4, 5, 6), true},   // one in the other
		{box(0, 3, 9, 5), box(3, 0, 5, 9), box(3, 3, 5, 5), true},   // a cross: no corner of one is in the other
		{box(3, 4, 3, 4), box(3, 4, 3, 4), box(3, 4, 3, 4), true},   // one point
		{box(3, 4, 3, 4), box(3, 5, 3, 5), api.Box{}, false},        // two points
		{box(-1, -1, 1, 1), box(0, 0, 0, 0), box(0, 0, 0, 0), true}, // all of it noughts, and true
		{full, full, full, true},
		{full, box(bound, -bound, bound, -bound), box(bound, -bound, bound, -bound), true},
		{box(-bound, -bound, -bound, bound), box(bound, -bound, bound, bound), api.Box{}, false},
		{full, box(1, 0, 0, 5), api.Box{}, false}, {full, box(0, 1, 5, 0), api.Box{}, false},
		{full, box(0, 0, bound+1, 0), api.Box{}, false}, {full, box(0, 0, 0, bound+1), api.Box{}, false}, {full, box(-bound-1, 0, 0, 0), api.Box{}, false}, {full, box(0, -bound-1, 0, 0), api.Box{}, false},
		{full, box(math.MinInt, math.MinInt, math.MaxInt, math.MaxInt), api.Box{}, false},
		{box(1, 1, 0, 0), box(1, 1, 0, 0), api.Box{}, false},
	} {
		for _, two := range [][2]api.Box{{c.a, c.b}, {c.b, c.a}} {
			if got, is := geom.Meet(two[0], two[1]); got != c.want || is != c.is {
				t.Errorf("Meet(%v): %v %v, want %v %v", two, got, is, c.want, c.is)
			}
			if is := geom.Overlap(two[0], two[1]); is != c.is {
				t.Errorf("Overlap(%v): %v", two, is)
			}
		}
	}
}

// All pairs of boxes whose numbers are of a few, of which some lie beyond the bounds.
func TestP5_5AllPairs(t *testing.T) {
	for _, of := range [][]int{{0, 1, 2, 3}, {-bound - 1, -bound, bound}, {-1, bound, bound + 1, math.MaxInt}, {math.MinInt, -bound, 0}} {
		all, points := boxes(of), grid(of)
		for _, a := range all {
			for _, b := range all {
				want, common := meantMeet(a, b, points)
				if got, is := geom.Meet(a, b); got != want || is != common {
					t.Fatalf("Meet(%v, %v): %v %v, want %v %v", a, b, got, is, want, common)
				}
				if is := geom.Overlap(a, b); is != common {
					t.Fatalf("Overlap(%v, %v): %v", a, b, is)
				}
			}
		}
	}
}

// someBox is one whose corners are most often in their order, and near others.
func someBox(rnd *rand.Rand) api.Box {
	x, y := someInt(rnd), someInt(rnd)
	if rnd.Intn(10) == 0 {
		return box(x, y, someInt(rnd), someInt(rnd))
	}
	toX, toY := someInt(rnd), someInt(rnd)
	return box(min(x, toX), min(y, toY), max(x, toX), max(y, toY))
}

func checkMeetOf(t *testing.T, a, b api.Box, points []api.Point) {
	t.Helper()
	common, is := geom.Meet(a, b)
	for _, p := range points {
		both := geom.Inside(a, p) && geom.Inside(b, p)
		if got := is && geom.Inside(common, p); got != both {
			t.Fatalf("%v of %v and %v, which have %v in common: %v, but of both %v", p, a, b, common, got, both)
		}
	}
	if is && geom.Check(common) != api.OK {
		t.Fatalf("Meet(%v, %v): %v may not be", a, b, common)
	}
}

func TestP5_7InsideOfMeet(t *testing.T) {
	of := []int{-1, 0, 1, 2}
	for _, a := range boxes(of) {
		for _, b := range boxes(of) {
			checkMeetOf(t, a, b, grid(of))
		}
	}
	rnd := rand.New(rand.NewSource(23))
	for range 50000 {
		a, b := someBox(rnd), someBox(rnd)
		checkMeetOf(t, a, b, []api.Point{
			a.Min, a.Max, b.Min, b.Max, at(a.Min.X, b.Max.Y), at(b.Max.X, a.Min.Y), at(a.Max.X, b.Min.Y), at(b.Min.X, a.Max.Y),
			at(a.Min.X-1, b.Min.Y), at(b.Max.X+1, a.Max.Y), {}, at(someInt(rnd), someInt(rnd)),
		})
	}
}

func TestP5_7Overlap(t *testing.T) {
	rnd := rand.New(rand.NewSource(24))
	all := boxes([]int{-bound - 1, -bound, 0, bound, bound + 1})
	for range 2000 {
		all = append(all, someBox(rnd))
	}
	for _, a := range all {
		if got, want := geom.Overlap(a, a), geom.Check(a) == api.OK; got != want {
			t.Fatalf("Overlap of %v with itself: %v", a, got)
		}
		if common, is := geom.Meet(a, a); is && common != a {
			t.Fatalf("Meet of %v with itself: %v", a, common)
		}
		for range 100 {
			b := all[rnd.Intn(len(all))]
			if geom.Overlap(a, b) != geom.Overlap(b, a) {
				t.Fatalf("Overlap(%v, %v): the order counts", a, b)
			}
		}
	}
}

// The point counts as it is within the bounds: as such its box has it.
func TestP5_7AroundHasItsPoint(t *testing.T) {
	rnd := rand.New(rand.NewSource(25))
	for _, p := range points(25, 10000) {
		for _, radius := range append(edges(), someInt(rnd)) {
			b := geom.Around(p, radius)
			if geom.Check(b) != api.OK || !geom.Inside(b, geom.Bound(p)) {
				t.Fatalf("Around(%v, %d): %v", p, radius, b)
			}
		}
	}
}
