package hit_test

import (
	"math"
	"math/rand"
	"slices"
	"testing"

	"echelon/api"
	"echelon/hit"
	"echelon/mover"
)

const (
	bound  = 2147483647
	mostNo = 1099511627776
)

func at(x, y int) api.Point { return api.Point{X: x, Y: y} }

// in is a mover in play at a point, none of whose other numbers is 0 but Out.
func in(x, y int) api.Mover {
	return api.Mover{
		At: at(x, y), Speed: at(-300, 1024), Push: at(32, -256),
		Facing: 5, Health: 40, Energy: 20, Shield: true, Cool: 7, Said: 99,
	}
}

// out is a mover at a point that is out.
func out(x, y int) api.Mover { return api.Mover{At: at(x, y), Facing: 3, Said: 200, Out: 17} }

// heap are n movers in play that lie on one another.
func heap(n int) []api.Mover {
	var l []api.Mover
	for range n {
		l = append(l, in(100, -100))
	}
	return l
}

// with is a list in which one thing is another one.
func with[T any](l []T, place int, other T) []T {
	l = slices.Clone(l)
	l[place] = other
	return l
}

// spoiltMovers are movers that may not be.
func spoiltMovers() []api.Mover {
	spoil := func(change func(m *api.Mover)) api.Mover {
		m := in(0, 0)
		change(&m)
		return m
	}
	l := []api.Mover{
		{}, {Health: 101}, {Health: -1}, {Health: 50, Energy: 101}, {Health: 50, Energy: -1}, {Health: 50, Out: -1}, {Out: -1}, {Out: 31},
		{Health: 50, Out: 1}, {Energy: 50, Out: 1}, {Out: 3, Shield: true}, {Out: 3, Cool: 1}, {Out: 3, Speed: at(1, 0)}, {Out: 3, Push: at(0, 1)},
		spoil(func(m *api.Mover) { m.Speed.X = 1025 }), spoil(func(m *api.Mover) { m.Speed.Y = -1025 }), spoil(func(m *api.Mover) { m.Push.X = -257 }),
		spoil(func(m *api.Mover) { m.Facing = 16 }), spoil(func(m *api.Mover) { m.Cool = 13 }), spoil(func(m *api.Mover) { m.Said = 256 }),
	}
	for _, n := range []int{math.MinInt, -bound - 1, bound + 1, math.MaxInt} {
		l = append(l, spoil(func(m *api.Mover) { m.At.X = n }), spoil(func(m *api.Mover) { m.At.Y = n }), spoil(func(m *api.Mover) { m.Health = n }), spoil(func(m *api.Mover) { m.Out = n }))
	}
	return l
}

// spoiltLists are movers that may not be together: too many, or one of them may not be, at each place.
func spoiltLists() [][]api.Mover {
	far := append(heap(6), out(bound, bound))
	all := [][]api.Mover{heap(7), heap(8), heap(49), heap(300), far, make([]api.Mover, 7)}
	for _, m := range spoiltMovers() {
		for n := 1; n <= 6; n++ {
			for place := range n {
				all = append(all, with(heap(n), place, m))
			}
		}
		all = append(all, []api.Mover{out(0, 0), m, out(0, 0)}, []api.Mover{m, m})
	}
	return all
}

// someIn is a number of a range, often at its ends.
func someIn(r *rand.Rand, least, most int) int {
	switch r.Intn(6) {
	case 0:
		return least
	case 1:
		return most
	case 2:
		return min(least+1, most)
	}
	return least + r.Intn(most-least+1)
}

// someMover is one that may be, near to a point.
func someMover(r *rand.Rand, near api.Point) api.Mover {
	aside := func(n int) int { return max(-bound, min(bound, n+someAside(r))) }
	if r.Intn(5) == 0 {
		m := out(aside(near.X), aside(near.Y))
		m.Out = someIn(r, 1, 30)
		return m
	}
	m := in(aside(near.X), aside(near.Y))
	m.Speed, m.Push = at(someIn(r, -1024, 1024), someIn(r, -1024, 1024)), at(someIn(r, -256, 256), someIn(r, -256, 256))
	m.Health, m.Energy, m.Shield = someIn(r, 1, 100), someIn(r, 0, 100), r.Intn(2) == 0
	return m
}

// someAside is how far something lies aside: often just where bodies, or a body and a spot, touch, or one part beside that.
func someAside(r *rand.Rand) int {
	n := []int{0, 768, 1280, 2048, 2560, 3000, 5120}[r.Intn(7)] + r.Intn(3) - 1
	if r.Intn(2) == 0 {
		return -n
	}
	return n
}

// someNear is a point about which movers lie: far from the bounds of the numbers, or at them.
func someNear(r *rand.Rand) api.Point {
	one := func() int { return []int{-bound, -bound + 3000, -70000, 0, 6144, bound - 1281, bound}[r.Intn(7)] }
	return at(one(), one())
}

// someMovers are at most 6 that may be together, near to a point.
func someMovers(r *rand.Rand, near api.Point) []api.Mover {
	var l []api.Mover
	for range r.Intn(7) {
		l = append(l, someMover(r, near))
	}
	return l
}

// What the chapter's words say, of numbers alone.

// meantSpan is where a box around a number begins, and where it ends.
func meantSpan(n, radius int) (int, int) {
	return max(n-radius, -bound), min(n+radius, bound)
}

func meantTouch(a, radiusA, b, radiusB int) bool {
	leastA, mostA := meantSpan(a, radiusA)
	leastB, mostB := meantSpan(b, radiusB)
	return leastA <= mostB && leastB <= mostA
}

func meantOverlap(a api.Point, radiusA int, b api.Point, radiusB int) bool {
	return meantTouch(a.X, radiusA, b.X, radiusB) && meantTouch(a.Y, radiusA, b.Y, radiusB)
}

func meantHas(middle, p api.Point) bool {
	return meantOverlap(middle, 1280, p, 0)
}

func meantTogether(l []api.Mover) bool {
	if len(l) > 6 {
		return false
	}
	for _, m := range l {
		if mover.Check(m) != api.OK {
			return false
		}
	}
	return true
}

// meantBodies is P11.1, word by word.
func meantBodies(l []api.Mover) ([]api.Meet, api.Errno) {
	if !meantTogether(l) {
		return nil, 110
	}
	var meets []api.Meet
	for a := range l {
		for b := a + 1; b < len(l); b++ {
			if l[a].Out == 0 && l[b].Out == 0 && meantOverlap(l[a].At, 1280, l[b].At, 1280) {
				meets = append(meets, api.Meet{A: a, B: b})
			}
		}
	}
	return meets, api.OK
}

func askBodies(t *testing.T, l []api.Mover) {
	t.Helper()
	want, wantErrno := meantBodies(l)
	if got, e := hit.Bodies(l); !slices.Equal(got, want) || e != wantErrno {
		t.Errorf("Bodies(%+v): %v %d, not %v %d", l, got, e, want, wantErrno)
	}
}

// meets are those of pairs of numbers.
func meets(ab ...int) []api.Meet {
	var l []api.Meet
	for i := 0; i < len(ab); i += 2 {
		l = append(l, api.Meet{A: ab[i], B: ab[i+1]})
	}
	return l
}

// wantMeets asks for an answer without an error.
func wantMeets(t *testing.T, name string, got []api.Meet, e api.Errno, ab ...int) {
	t.Helper()
	if !slices.Equal(got, meets(ab...)) || e != api.OK {
		t.Errorf("%s: %v %d, not %v", name, got, e, meets(ab...))
	}
}

// wantNone asks for nothing and ErrHitState.
func wantNone(t *testing.T, name string, got []api.Meet, e api.Errno) {
	t.Helper()
	if len(got) != 0 || e != 110 {
		t.Errorf("%s: %v %d, not nothing and 110", name, got, e)
	}
}

func TestP11_1Examples(t *testing.T) {
	m, n, p := mover.Start(at(0, 0), 0), mover.Start(at(2560, 0), 0), mover.Start(at(2561, 0), 0)
	got, e := hit.Bodies([]api.Mover{m, n})
	wantMeets(t, "m, n", got, e, 0, 1)
	got, e = hit.Bodies([]api.Mover{m, p})
	wantMeets(t, "m, p", got, e)
	got, e = hit.Bodies([]api.Mover{m, p, n})
	wantMeets(t, "m, p, n", got, e, 0, 2, 1, 2)
}

func TestP11_1HowMany(t *testing.T) {
	got, e := hit.Bodies(nil)
	wantMeets(t, "nil", got, e)
	got, e = hit.Bodies([]api.Mover{})
	wantMeets(t, "none", got, e)
	got, e = hit.Bodies(heap(1))
	wantMeets(t, "1", got, e)
	got, e = hit.Bodies(heap(2))
	wantMeets(t, "2", got, e, 0, 1)
	got, e = hit.Bodies(heap(3))
	wantMeets(t, "3", got, e, 0, 1, 0, 2, 1, 2)
	got, e = hit.Bodies(heap(6))
	wantMeets(t, "6", got, e, 0, 1, 0, 2, 0, 3, 0, 4, 0, 5, 1, 2, 1, 3, 1, 4, 1, 5, 2, 3, 2, 4, 2, 5, 3, 4, 3, 5, 4, 5)
	got, e = hit.Bodies(heap(7))
	wantNone(t, "7", got, e)
}

func TestP11_1Spoilt(t *testing.T) {
	for _, l := range spoiltLists() {
		got, e := hit.Bodies(l)
		wantNone(t, "a list that may not be", got, e)
	}
}

// TestP11_1Touch has two bodies beside one another on each axis, as far as they touch and one part further.
func TestP11_1Touch(t *testing.T) {
	for _, c := range []struct {
		name string
		x, y int
		is   bool
	}{
		{"on one another", 0, 0, true}, {"nearly so", 1, -1, true},
		{"along one side", 2560, 0, true}, {"along a part of it", 2560, 1300, true}, {"apart by one part", 2561, 0, false}, {"within by one part", 2559, 0, true},
		{"along one side", 0, 2560, true}, {"along a part of it", -1300, 2560, true}, {"apart by one part", 0, 2561, false}, {"within by one part", 0, 2559, true},
		{"in one point", 2560, 2560, true}, {"in one point", 2560, -2560, true},
		{"apart by one part on X", 2561, 2560, false}, {"apart by one part on Y", 2560, 2561, false}, {"apart by one part on both", 2561, 2561, false},
		{"apart by one part on X", 2561, -2560, false}, {"apart by one part on Y", 2560, -2561, false},
		{"far apart on X", 70000, 0, false}, {"far apart on Y", 0, 70000, false}, {"far apart", 70000, -70000, false},
	} {
		for _, from := range []api.Point{at(0, 0), at(6144, -999), at(bound-80000, 80000-bound), at(80000-bound, bound-80000)} {
			here, there := in(from.X, from.Y), in(from.X+c.x, from.Y+c.y)
			var want []int
			if c.is {
				want = []int{0, 1}
			}
			got, e := hit.Bodies([]api.Mover{here, there})
			wantMeets(t, c.name, got, e, want...)
			got, e = hit.Bodies([]api.Mover{there, here})
			wantMeets(t, c.name+", the other way round", got, e, want...)
		}
	}
}

// TestP11_1Bounds has bodies at the bounds of the numbers, which end there.
func TestP11_1Bounds(t *testing.T) {
	for _, c := range []struct {
		a, b api.Mover
		is   bool
	}{
		{in(bound, 0), in(bound, 0), true}, {in(bound, 0), in(bound-2560, 0), true}, {in(bound, 0), in(bound-2561, 0), false}, {in(bound-1, 0), in(bound-2561, 0), true},
		{in(-bound, 0), in(-bound, 0), true}, {in(-bound, 0), in(2560-bound, 0), true}, {in(-bound, 0), in(2561-bound, 0), false},
		{in(0, bound), in(0, bound-2560), true}, {in(0, bound), in(0, bound-2561), false}, {in(0, -bound), in(0, 2560-bound), true}, {in(0, -bound), in(0, 2561-bound), false},
		{in(bound, bound), in(bound-2560, bound-2560), true}, {in(bound, bound), in(bound-2561, bound-2560), false}, {in(-bound, bound), in(2560-bound, bound-2561), false},
		{in(bound, 0), in(-bound, 0), false}, {in(0, bound), in(0, -bound), false}, {in(bound, bound), in(-bound, -bound), false}, {in(bound, -bound), in(-bound, bound), false},
	} {
		var want []int
		if c.is {
			want = []int{0, 1}
		}
		got, e := hit.Bodies([]api.Mover{c.a, c.b})
		wantMeets(t, "at the bounds", got, e, want...)
		got, e = hit.Bodies([]api.Mover{c.b, c.a})
		wantMeets(t, "at the bounds, the other way round", got, e, want...)
	}
}

// TestP11_1Out: who is out keeps its place, and meets nobody.
func TestP11_1Out(t *testing.T) {
	i, o := in(0, 0), out(0, 0)
	for _, c := range []struct {
		name string
		l    []api.Mover
		want []int
	}{
		{"between", []api.Mover{i, o, i}, []int{0, 2}}, {"ahead", []api.Mover{o, i, i}, []int{1, 2}}, {"behind", []api.Mover{i, i, o}, []int{0, 1}},
		{"two that are out", []api.Mover{o, o}, nil}, {"one of two", []api.Mover{i, o}, nil}, {"the other one of two", []api.Mover{o, i}, nil}, {"alone", []api.Mover{o}, nil},
		{"two of four", []api.Mover{o, i, o, i}, []int{1, 3}}, {"two of four in a row", []api.Mover{i, o, o, i}, []int{0, 3}}, {"all", []api.Mover{o, o, o, o, o, o}, nil},
		{"three of six", []api.Mover{o, i, i, o, o, i}, []int{1, 2, 1, 5, 2, 5}},
	} {
		got, e := hit.Bodies(c.l)
		wantMeets(t, c.name, got, e, c.want...)
	}
	for frames := 1; frames <= 30; frames++ {
		got, e := hit.Bodies([]api.Mover{i, {Out: frames}, i})
		wantMeets(t, "out", got, e, 0, 2)
	}
}

// TestP11_1Order: the order hangs on the places alone, not on where the movers are.
func TestP11_1Order(t *testing.T) {
	l := []api.Mover{in(2000, 0), in(0, 0), in(4000, 0), in(-2000, 0)}
	got, e := hit.Bodies(l)
	wantMeets(t, "a row", got, e, 0, 1, 0, 2, 1, 3)
	slices.Reverse(l)
	got, e = hit.Bodies(l)
	wantMeets(t, "a row from the other end", got, e, 0, 2, 1, 3, 2, 3)
}

// TestP11_1Sets has each set of six movers in play, the others out.
func TestP11_1Sets(t *testing.T) {
	for set := range 64 {
		var l []api.Mover
		for place := range 6 {
			if set>>place&1 == 1 {
				l = append(l, in(1300*(place*place%5), 900*place))
			} else {
				l = append(l, out(1300, 900*place))
			}
		}
		for n := range 7 {
			askBodies(t, l[:n])
		}
	}
}

func TestP11_1Some(t *testing.T) {
	r := rand.New(rand.NewSource(111))
	for range 100000 {
		askBodies(t, someMovers(r, someNear(r)))
	}
}

// TestP11_1StayAsTheyWere: what is handed in is neither changed nor kept, the room behind its end neither; an answer is new memory.
func TestP11_1StayAsTheyWere(t *testing.T) {
	for n := range 8 {
		room := append(heap(n), in(1, 2), in(3, 4))
		before := slices.Clone(room)
		got, e := hit.Bodies(room[:n])
		if !slices.Equal(room, before) {
			t.Errorf("%d movers have become %+v", n, room)
		}
		clear(room)
		kept := slices.Clone(got)
		again, againErrno := hit.Bodies(heap(n))
		clear(again[:cap(again)])
		if !slices.Equal(got, kept) || e != againErrno {
			t.Errorf("%d movers: %v has become %v", n, kept, got)
		}
		askBodies(t, heap(n))
	}
}
