package arena_test

import (
	"fmt"
	"math"
	"math/rand"
	"strings"
	"testing"

	"echelon/api"
	"echelon/arena"
)

func meantWithin(n, least, most int) int {
	if n < least {
		return least
	}
	if n > most {
		return most
	}
	return n
}

func meantBound(p api.Point) api.Point {
	return at(meantWithin(p.X, -bound, bound), meantWithin(p.Y, -bound, bound))
}

func meantStep(by api.Point) api.Point {
	return at(meantWithin(by.X, -2048, 2048), meantWithin(by.Y, -2048, 2048))
}

// meantBody is the box around a point; all numbers are small beside the greatest int here.
func meantBody(p api.Point, radius int) api.Box {
	p = meantBound(p)
	return api.Box{Min: meantBound(at(p.X-radius, p.Y-radius)), Max: meantBound(at(p.X+radius, p.Y+radius))}
}

func sizeAndSign(n int) (int, int) {
	if n < 0 {
		return -n, -1
	}
	return n, 1
}

// told is a map as a test tells it: of the greatest ones only the beginning.
func told(a api.Arena) string {
	return fmt.Sprintf("%d columns, %d rows, %.800q", a.Cols, a.Rows, a.Signs)
}

// meantSlide is P6.6, point by point.
func meantSlide(a api.Arena, from, by api.Point, radius int) (api.Point, int) {
	from, by, radius = meantBound(from), meantStep(by), meantWithin(radius, 0, 4096)
	stopped := 0
	n, s := sizeAndSign(by.X)
	k := 0
	for k < n && !meantTouches(a, meantBody(at(from.X+s*(k+1), from.Y), radius)) {
		k++
	}
	if k < n {
		stopped++
	}
	from = meantBound(at(from.X+s*k, from.Y))
	n, s = sizeAndSign(by.Y)
	k = 0
	for k < n && !meantTouches(a, meantBody(at(from.X, from.Y+s*(k+1)), radius)) {
		k++
	}
	if k < n {
		stopped += 2
	}
	return meantBound(at(from.X, from.Y+s*k)), stopped
}

func checkSlide(t *testing.T, a api.Arena, from, by api.Point, radius int) {
	t.Helper()
	got, stopped := arena.Slide(a, from, by, radius)
	if want, wantStopped := meantSlide(a, from, by, radius); got != want || stopped != wantStopped {
		t.Fatalf("Slide(%s, %v, %v, %d): %v, %d, want %v, %d", told(a), from, by, radius, got, stopped, want, wantStopped)
	}
}

func TestP6_6Slide(t *testing.T) {
	a := standard(t, 3)
	start := at(6144, 6144)
	corner := walled("...", "..#", "...")
	wide := api.Arena{Cols: 1 << 19, Rows: 1, Signs: strings.Repeat(".", 1<<19)}
	high := api.Arena{Cols: 1, Rows: 1 << 19, Signs: wide.Signs}
	for _, c := range []struct {
		name     string
		a        api.Arena
		from, by api.Point
		radius   int
		want     api.Point
		stopped  int
	}{
		{"along a wall", a, start, at(-2048, 100), 1280, at(5376, 6244), 1}, {"beyond a step", a, start, at(5000, 0), 0, at(8192, 6144), 0}, {"no way", a, start, at(0, 0), 1280, start, 0},
		{"up to it", a, start, at(-768, 0), 1280, at(5376, 6144), 0}, {"one point further", a, start, at(-769, 0), 1280, at(5376, 6144), 1}, {"into a corner", a, start, at(-2048, -2048), 1280, at(5376, 5376), 3}, {"along the wall above", a, start, at(100, -2048), 1280, at(6244, 5376), 2},
		{"a step on each axis", a, start, at(2048, 2048), 1280, at(8192, 8192), 0}, {"beyond it on Y", a, start, at(0, 2049), 1280, at(6144, 8192), 0}, {"beyond it on both", a, start, at(2049, 5000), 1280, at(8192, 8192), 0}, {"the greatest ways", a, start, at(math.MaxInt, math.MaxInt), 1280, at(8192, 8192), 0}, {"the least ways", a, start, at(math.MinInt, math.MinInt), 1280, at(5376, 5376), 3}, {"beyond it to the left", a, at(12288, 12288), at(-2049, -2049), 1280, at(10240, 10240), 0},
		{"a radius below 0", a, start, at(-2048, 0), -1, at(4096, 6144), 0}, {"the least radius", a, start, at(-2048, -2048), math.MinInt, at(4096, 4096), 0}, {"a radius of 0", a, at(4100, 4100), at(-2048, -2048), 0, at(4096, 4096), 3}, {"a radius of 1", a, at(4100, 4100), at(-2048, -2048), 1, at(4097, 4097), 3},
		{"a radius of 4096", a, at(12288, 12288), at(-2048, -2048), 4096, at(10240, 10240), 0}, {"a radius of 4096, at the wall", a, at(8192, 8192), at(-1, 1), 4096, at(8192, 8193), 1}, {"a radius above", a, at(8192, 8192), at(-1, 1), 4097, at(8192, 8193), 1}, {"the greatest radius", a, at(8200, 8200), at(-2048, -2048), math.MaxInt, at(8192, 8192), 3},
		{"in a wall, out of it at once", a, at(4095, 6144), at(1, 0), 0, at(4096, 6144), 0}, {"in a wall, a point too deep", a, at(4094, 6144), at(2, 0), 0, at(4094, 6144), 1}, {"in a wall, without a way", a, at(100, 100), at(0, 0), 0, at(100, 100), 0}, {"in a wall, on X stopped and on Y out of it", a, at(6144, 4095), at(5, 5), 0, at(6144, 4100), 1}, {"out of it by X", a, at(4095, 6144), at(5, 5), 0, at(4100, 6149), 0}, {"deep in a corner", a, at(100, 100), at(2048, 2048), 5, at(100, 100), 3}, {"touching on both sides", a, at(6144, 6144), at(10, 10), 4096, at(6144, 6144), 3},
		{"X first, then free downwards", corner, at(2*4096+4000, 4*4096-200), at(500, 500), 100, at(2*4096+4500, 4*4096-101), 2}, {"stopped on X, then down beside it", corner, at(2*4096+3900, 2*4096+500), at(300, 300), 96, at(3*4096-97, 2*4096+800), 1},
		{"at the bounds, free", wide, at(bound-10, 100), at(100, 0), 50, at(bound, 100), 0}, {"at the bound itself", wide, at(bound, 100), at(2048, 0), 0, at(bound, 100), 0}, {"beyond the bound", wide, at(math.MaxInt, 100), at(-5, 0), 0, at(bound-5, 100), 0}, {"at the bounds, free downwards", high, at(100, bound-10), at(0, 100), 50, at(100, bound), 0}, {"a wall ahead of the bound", with(wide, 1<<19-1, '#'), at(bound-4100, 100), at(100, 0), 0, at(bound-4096, 100), 1},
		{"the least bound", a, at(math.MinInt, math.MinInt), at(-5, -5), 0, at(-bound, -bound), 3}, {"the greatest bound", a, at(math.MaxInt, math.MaxInt), at(5, 5), 4096, at(bound, bound), 3},
		{"no map", api.Arena{}, at(0, 0), at(5, 5), 0, at(0, 0), 3},
	} {
		got, stopped := arena.Slide(c.a, c.from, c.by, c.radius)
		if got != c.want || stopped != c.stopped {
			t.Errorf("%s: %v, %d, want %v, %d", c.name, got, stopped, c.want, c.stopped)
		}
		checkSlide(t, c.a, c.from, c.by, c.radius)
	}
}

func someWay(rnd *rand.Rand) int {
	if rnd.Intn(8) == 0 {
		return []int{math.MinInt, -2049, -2048, -2047, -65, -64, -63, -1, 0, 1, 63, 64, 65, 2047, 2048, 2049, math.MaxInt}[rnd.Intn(17)]
	}
	return rnd.Intn(4601) - 2300
}

func someRadius(rnd *rand.Rand) int {
	if rnd.Intn(3) == 0 {
		return []int{math.MinInt, -1, 0, 1, 1280, 4095, 4096, 4097, math.MaxInt}[rnd.Intn(9)]
	}
	return rnd.Intn(2000)
}

// somePlace is one about a map, often in a free cell.
func somePlace(rnd *rand.Rand, a api.Arena) api.Point {
	cols, rows := min(max(a.Cols, 0), 40), min(max(a.Rows, 0), 40)
	p := at(someNumber(rnd, cols), someNumber(rnd, rows))
	for range 4 {
		if !meantSolid(a, meantCell(p.X), meantCell(p.Y)) {
			break
		}
		p = at(someNumber(rnd, cols), someNumber(rnd, rows))
	}
	return p
}

func TestP6_6SlideSome(t *testing.T) {
	rnd := rand.New(rand.NewSource(66))
	maps := append(goodMaps(67, 200), oddMaps()...)
	found := [4]int{}
	for range 4000 {
		a := maps[rnd.Intn(len(maps))]
		from, by, radius := somePlace(rnd, a), at(someWay(rnd), someWay(rnd)), someRadius(rnd)
		checkSlide(t, a, from, by, radius)
		_, stopped := arena.Slide(a, from, by, radius)
		found[stopped]++
	}
	for stopped, n := range found {
		if n < 100 {
			t.Errorf("the slides are too much alike: %d stopped by %d", n, stopped)
		}
	}
}

func TestP6_6SlideAtTheBounds(t *testing.T) {
	free := strings.Repeat(".", 1<<19)
	maps := []api.Arena{{Cols: 1 << 19, Rows: 1, Signs: free}, {Cols: 1, Rows: 1 << 19, Signs: free}, {Cols: 1 << 19, Rows: 1, Signs: with(api.Arena{Signs: free}, 1<<19-2, '#').Signs}}
	rnd := rand.New(rand.NewSource(67))
	for range 300 {
		a := maps[rnd.Intn(len(maps))]
		far, near := bound-rnd.Intn(9000), rnd.Intn(4096)
		if rnd.Intn(4) == 0 {
			far = bound + rnd.Intn(5)
		}
		from := at(far, near)
		if a.Cols == 1 {
			from = at(near, far)
		}
		checkSlide(t, a, from, at(someWay(rnd), someWay(rnd)), rnd.Intn(500))
	}
	for _, from := range []api.Point{at(-bound, 5000), at(5000, -bound), at(-bound, -bound), at(bound, bound), at(math.MinInt, math.MaxInt)} {
		for range 20 {
			checkSlide(t, standard(t, 0), from, at(someWay(rnd), someWay(rnd)), someRadius(rnd))
		}
	}
}

// meantRay is P6.7.
func meantRay(a api.Arena, from, by api.Point) (api.Point, bool) {
	from, by = meantBound(from), meantStep(by)
	x, _ := sizeAndSign(by.X)
	y, _ := sizeAndSign(by.Y)
	m := max(x, y)
	n := m / 64
	if m%64 > 0 {
		n++
	}
	place := func(j int) api.Point {
		if j == 0 {
			return from
		}
		return meantBound(at(from.X+int(math.Trunc(float64(by.X*j)/float64(n))), from.Y+int(math.Trunc(float64(by.Y*j)/float64(n)))))
	}
	for j := 1; j <= n; j++ {
		if p := place(j); meantSolid(a, meantCell(p.X), meantCell(p.Y)) {
			return place(j - 1), true
		}
	}
	return place(n), false
}

func checkRay(t *testing.T, a api.Arena, from, by api.Point) {
	t.Helper()
	got, stopped := arena.Ray(a, from, by)
	if want, wantStopped := meantRay(a, from, by); got != want || stopped != wantStopped {
		t.Fatalf("Ray(%s, %v, %v): %v, %v, want %v, %v", told(a), from, by, got, stopped, want, wantStopped)
	}
}

func TestP6_7Ray(t *testing.T) {
	a := standard(t, 3)
	start := at(6144, 6144)
	wide := api.Arena{Cols: 1 << 19, Rows: 1, Signs: strings.Repeat(".", 1<<19)}
	for _, c := range []struct {
		name           string
		a              api.Arena
		from, by, want api.Point
		stopped        bool
	}{
		{"up to the wall", a, start, at(-2048, 0), at(4096, 6144), false}, {"from there", a, at(4096, 6144), at(-2048, 0), at(4096, 6144), true}, {"no way at all", a, start, at(0, 0), start, false}, {"no way in a wall", a, at(0, 0), at(0, 0), at(0, 0), false}, {"no way beyond the bounds", a, at(math.MaxInt, math.MinInt), at(0, 0), at(bound, -bound), false},
		{"1", a, at(4096, 6144), at(-1, 0), at(4096, 6144), true}, {"1, free", a, at(4097, 6144), at(-1, 0), at(4096, 6144), false}, {"63 in one part", a, at(4098, 6144), at(-63, 0), at(4098, 6144), true}, {"64 in one part", a, at(4098, 6144), at(-64, 0), at(4098, 6144), true}, {"65 in two parts", a, at(4098, 6144), at(-65, 0), at(4098, 6144), true}, {"65, stopped in the second part", a, at(4128, 6144), at(-65, 0), at(4096, 6144), true}, {"64, stopped in the only part", a, at(4128, 6144), at(-64, 0), at(4128, 6144), true},
		{"beyond a step", a, start, at(5000, 0), at(8192, 6144), false}, {"beyond it on both", a, start, at(5000, 5000), at(8192, 8192), false}, {"the least ways", a, start, at(math.MinInt, math.MinInt), at(4096, 4096), false}, {"the greatest ways", a, start, at(math.MaxInt, math.MaxInt), at(8192, 8192), false}, {"a point short of a step", a, at(6143, 6144), at(-2048, 0), at(4159, 6144), true},
		{"aslant", a, start, at(100, -65), at(6244, 6079), false}, {"aslant, without the rest", a, at(6144, 4127), at(-100, -33), at(6094, 4111), true}, {"upwards", a, at(6144, 4160), at(0, -128), at(6144, 4096), true}, {"downwards", a, at(6144, 5*4096-65), at(0, 128), at(6144, 5*4096-1), true},
		{"out of a wall", a, at(4095, 6144), at(64, 0), at(4159, 6144), false}, {"out of a wall, too deep in it", a, at(4000, 6144), at(640, 0), at(4000, 6144), true}, {"past a wall that is thinner than no part", walled("..", "#."), at(8191, 8191), at(2, 2), at(8193, 8193), false}, {"past a corner, between two points", walled("..", "#."), at(8160, 8180), at(40, 30), at(8200, 8210), false},
		{"at the bounds", wide, at(bound-10, 100), at(100, 0), at(bound, 100), false}, {"beyond them", wide, at(math.MaxInt, 100), at(-100, 0), at(bound-100, 100), false}, {"no map", api.Arena{}, at(5, 5), at(10, 10), at(5, 5), true},
	} {
		got, stopped := arena.Ray(c.a, c.from, c.by)
		if got != c.want || stopped != c.stopped {
			t.Errorf("%s: %v, %v, want %v, %v", c.name, got, stopped, c.want, c.stopped)
		}
		checkRay(t, c.a, c.from, c.by)
	}
}

func TestP6_7RaySome(t *testing.T) {
	rnd := rand.New(rand.NewSource(68))
	maps := append(goodMaps(69, 200), oddMaps()...)
	stopped := 0
	for range 40000 {
		a := maps[rnd.Intn(len(maps))]
		from, by := somePlace(rnd, a), at(someWay(rnd), someWay(rnd))
		if rnd.Intn(16) == 0 {
			from = at([]int{math.MinInt, -bound, bound, math.MaxInt}[rnd.Intn(4)], from.Y)
		}
		checkRay(t, a, from, by)
		if _, is := arena.Ray(a, from, by); is {
			stopped++
		}
	}
	if stopped < 2000 || stopped > 38000 {
		t.Errorf("the rays are too much alike: %d of them are stopped", stopped)
	}
}

// between tells whether a number lies between two others, or is one of them.
func between(n, a, b int) bool { return min(a, b) <= n && n <= max(a, b) }

func TestP6_9WhatFollowsOfSlide(t *testing.T) {
	rnd := rand.New(rand.NewSource(69))
	maps := goodMaps(70, 200)
	clear := 0
	for range 40000 {
		a := maps[rnd.Intn(len(maps))]
		from, by, radius := somePlace(rnd, a), at(someWay(rnd), someWay(rnd)), rnd.Intn(2100)
		to, stopped := arena.Slide(a, from, by, radius)
		way := meantStep(by)
		if !between(to.X, from.X, from.X+way.X) || !between(to.Y, from.Y, from.Y+way.Y) {
			t.Fatalf("Slide(%v, %v, %v, %d): %v", a, from, by, radius, to)
		}
		came := stopped&1 == 0 && to.X == from.X+way.X || stopped&1 == 1 && to.X != from.X+way.X
		if !came || stopped&2 == 0 && to.Y != from.Y+way.Y || stopped&2 == 2 && to.Y == from.Y+way.Y {
			t.Fatalf("Slide(%v, %v, %v, %d): %v, %d", a, from, by, radius, to, stopped)
		}
		if arena.Touches(a, meantBody(from, radius)) {
			continue
		}
		clear++
		if arena.Touches(a, meantBody(to, radius)) {
			t.Fatalf("Slide(%v, %v, %v, %d): %v touches", a, from, by, radius, to)
		}
		about := box(min(from.X, from.X+way.X)-radius, min(from.Y, from.Y+way.Y)-radius, max(from.X, from.X+way.X)+radius, max(from.Y, from.Y+way.Y)+radius)
		if !arena.Touches(a, about) && (to != at(from.X+way.X, from.Y+way.Y) || stopped != 0) {
			t.Fatalf("Slide(%v, %v, %v, %d), without walls about: %v, %d", a, from, by, radius, to, stopped)
		}
	}
	if clear < 2000 {
		t.Errorf("only %d bodies do not touch at first", clear)
	}
}

func TestP6_9WhatFollowsOfRay(t *testing.T) {
	rnd := rand.New(rand.NewSource(70))
	maps := goodMaps(71, 200)
	for range 40000 {
		a := maps[rnd.Intn(len(maps))]
		from, by := somePlace(rnd, a), at(someWay(rnd), someWay(rnd))
		if arena.Solid(a, meantCell(from.X), meantCell(from.Y)) {
			continue
		}
		if to, _ := arena.Ray(a, from, by); arena.Solid(a, meantCell(to.X), meantCell(to.Y)) {
			t.Fatalf("Ray(%v, %v, %v): %v lies in a wall", a, from, by, to)
		}
	}
}
