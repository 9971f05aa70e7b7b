package arena_test

import (
	"math"
	"math/big"
	"math/rand"
	"strings"
	"testing"

	"echelon/api"
	"echelon/arena"
)

const bound = api.MaxNum

func at(x, y int) api.Point { return api.Point{X: x, Y: y} }

func box(x, y, toX, toY int) api.Box { return api.Box{Min: at(x, y), Max: at(toX, toY)} }

// meantSolid has the place of a sign as a number without bounds.
func meantSolid(a api.Arena, col, row int) bool {
	if col < 0 || row < 0 || col >= a.Cols || row >= a.Rows {
		return true
	}
	place := new(big.Int).Mul(big.NewInt(int64(row)), big.NewInt(int64(a.Cols)))
	place.Add(place, big.NewInt(int64(col)))
	if place.Cmp(big.NewInt(int64(len(a.Signs)))) >= 0 {
		return true
	}
	return a.Signs[place.Int64()] == '#'
}

// meantCell is the number of the cell that has a point, on one axis: the only c with 4096 c <= n <= 4096 c + 4095.
func meantCell(n int) int { return int(math.Floor(float64(n) / 4096)) }

func meantBoxMayBe(b api.Box) bool {
	for _, n := range []int{b.Min.X, b.Min.Y, b.Max.X, b.Max.Y} {
		if n < -bound || n > bound {
			return false
		}
	}
	return b.Min.X <= b.Max.X && b.Min.Y <= b.Max.Y
}

func meantTouches(a api.Arena, b api.Box) bool {
	if !meantBoxMayBe(b) {
		return false
	}
	for row := meantCell(b.Min.Y); row <= meantCell(b.Max.Y); row++ {
		for col := meantCell(b.Min.X); col <= meantCell(b.Max.X); col++ {
			if meantSolid(a, col, row) {
				return true
			}
		}
	}
	return false
}

// oddMaps are such as may not be, but of which walls are told all the same.
func oddMaps() []api.Arena {
	return []api.Arena{
		{}, {Cols: 3, Rows: 3}, {Cols: 3, Rows: 3, Signs: "...."}, {Cols: 3, Rows: 3, Signs: ".#.#....."}, {Cols: 3, Rows: 3, Signs: "........#...."}, {Cols: 2, Rows: 2, Signs: "x\x00\xff "},
		{Cols: 4, Rows: 0, Signs: "...."}, {Cols: 0, Rows: 4, Signs: "...."}, {Cols: -2, Rows: -2, Signs: "...."}, {Cols: -2, Rows: 2, Signs: "...."}, {Cols: 2, Rows: -2, Signs: "...."},
		{Cols: math.MinInt, Rows: math.MinInt, Signs: "...."}, {Cols: math.MinInt, Rows: 3, Signs: "...."}, {Cols: 3, Rows: math.MinInt, Signs: "...."}, {Cols: math.MaxInt, Rows: math.MaxInt, Signs: "..#."}, {Cols: 3, Rows: math.MaxInt, Signs: "....#..."}, {Cols: math.MaxInt, Rows: 3, Signs: "....#..."}, {Cols: 1, Rows: math.MaxInt, Signs: "..#.."},
		{Cols: 1 << 32, Rows: 1 << 32, Signs: "...."}, {Cols: 1 << 62, Rows: 8, Signs: "...."}, {Cols: 1<<63 - 2, Rows: 5, Signs: "...."}, {Cols: 1 << 40, Rows: 1 << 40, Signs: strings.Repeat(".", 50)},
		{Cols: 40, Rows: 30, Signs: strings.Repeat(".", 1200)}, {Cols: 40, Rows: 30, Signs: strings.Repeat(".", 601)}, {Cols: 40, Rows: 30, Signs: strings.Repeat(".#...", 240)},
	}
}

func TestP6_5Solid(t *testing.T) {
	a := standard(t, 3)
	for _, c := range []struct {
		col, row int
		want     bool
	}{
		{0, 0, true}, {1, 1, false}, {6, 1, false}, {3, 2, false}, {2, 3, false}, {7, 5, true}, {7, 1, true}, {8, 1, true}, {-1, 1, true}, {1, -1, true}, {1, 5, true}, {1, 6, true},
		{9, 0, true}, {15, 0, true}, {-7, 1, true}, {-6, 2, true}, {9, -1, true}, {math.MaxInt, 1, true}, {1, math.MaxInt, true}, {math.MinInt, 1, true}, {1, math.MinInt, true}, {math.MaxInt, math.MaxInt, true}, {math.MinInt, math.MinInt, true}, {1 << 61, 1, true}, {1, 1 << 61, true}, {9, 1 << 61, true},
	} {
		if got := arena.Solid(a, c.col, c.row); got != c.want {
			t.Errorf("Solid(%d, %d): %v", c.col, c.row, got)
		}
	}
}

func TestP6_5SolidOfAnyMap(t *testing.T) {
	places := []int{math.MinInt, math.MinInt + 1, -1 << 62, -1 << 61, -1 << 32, -5, -4, -3, -2, -1, 0, 1, 2, 3, 4, 5, 7, 8, 14, 15, 16, 29, 30, 31, 39, 40, 1199, 1200, 1 << 31, 1 << 32, 1 << 40, 1 << 58, 1 << 60, 1 << 61, 1<<61 + 1, 1 << 62, math.MaxInt - 2, math.MaxInt - 1, math.MaxInt}
	maps := oddMaps()
	for n := range 4 {
		maps = append(maps, standard(t, n))
	}
	for _, a := range append(maps, goodMaps(65, 50)...) {
		for _, col := range places {
			for _, row := range places {
				if got, want := arena.Solid(a, col, row), meantSolid(a, col, row); got != want {
					t.Fatalf("Solid(%v, %d, %d): %v", a, col, row, got)
				}
			}
		}
		for col := -2; col < 45; col++ {
			for row := -2; row < 35; row++ {
				if got, want := arena.Solid(a, col, row), meantSolid(a, col, row); got != want {
					t.Fatalf("Solid(%v, %d, %d): %v", a, col, row, got)
				}
			}
		}
	}
}

func TestP6_5Touches(t *testing.T) {
	a := standard(t, 3)
	hole := walled("...", ".#.", "...")
	for _, c := range []struct {
		name string
		a    api.Arena
		b    api.Box
		want bool
	}{
		{"ahead of the wall", a, box(4096, 4096, 4100, 4100), false}, {"one point further to the left", a, box(4095, 4096, 4100, 4100), true}, {"one point further upwards", a, box(4096, 4095, 4100, 4100), true},
		{"all that is free", a, box(4096, 4096, 7*4096-1, 5*4096-1), false}, {"one point further to the right", a, box(4096, 4096, 7*4096, 5*4096-1), true}, {"one point further downwards", a, box(4096, 4096, 7*4096-1, 5*4096), true},
		{"the last point of the corner", a, box(4095, 4095, 4096, 4096), true}, {"the first point of the other corner", a, box(7*4096-1, 5*4096-1, 7*4096, 5*4096), true}, {"one point, free", a, box(4096, 4096, 4096, 4096), false}, {"one point, a wall", a, box(4095, 4096, 4095, 4096), true}, {"one point, the last free one", a, box(7*4096-1, 5*4096-1, 7*4096-1, 5*4096-1), false},
		{"the first point of all", a, box(0, 0, 0, 0), true}, {"beyond the map", a, box(-1, 5000, -1, 5000), true}, {"far beyond it", a, box(1<<30, 1<<30, 1<<30, 1<<30), true}, {"far ahead of it", a, box(-bound, -bound, -bound, -bound), true}, {"everything", a, box(-bound, -bound, bound, bound), true}, {"a column of everything", a, box(5000, -bound, 5000, bound), true}, {"a row of everything", a, box(-bound, 5000, bound, 5000), true},
		{"around a wall, with its last point", hole, box(3*4096-1, 3*4096-1, 4*4096-1, 4*4096-1), true}, {"a point ahead of that", hole, box(3*4096, 3*4096, 4*4096-1, 4*4096-1), false}, {"a wall in the midst, the corners free", hole, box(4096, 4096, 4*4096-1, 4*4096-1), true}, {"beside it", hole, box(4096, 4096, 2*4096-1, 4*4096-1), false}, {"above it", hole, box(4096, 4096, 4*4096-1, 2*4096-1), false}, {"above it, a point more", hole, box(4096, 4096, 4*4096-1, 2*4096), true},
		{"Min above Max on X", a, box(1, 0, 0, 0), false}, {"Min above Max on Y", a, box(0, 1, 0, 0), false}, {"beyond the bounds", a, box(-bound-1, 0, 0, 0), false}, {"beyond the bounds downwards", a, box(0, 0, 0, bound+1), false}, {"far beyond the bounds", a, box(math.MinInt, math.MinInt, math.MaxInt, math.MaxInt), false}, {"the wrong way round", a, box(bound, bound, -bound, -bound), false},
	} {
		if got := arena.Touches(c.a, c.b); got != c.want {
			t.Errorf("%s: %v", c.name, got)
		}
	}
}

// TestP6_5TouchesGreatBoxes has boxes of more cells than one can go through, on maps that may not be.
func TestP6_5TouchesGreatBoxes(t *testing.T) {
	wide := api.Arena{Cols: 1 << 19, Rows: 1, Signs: strings.Repeat(".", 1<<19)}
	for _, c := range []struct {
		a    api.Arena
		b    api.Box
		want bool
	}{
		{api.Arena{Cols: math.MaxInt, Rows: math.MaxInt, Signs: "...."}, box(0, 0, bound, bound), true}, {api.Arena{Cols: 1, Rows: math.MaxInt, Signs: "...."}, box(0, 0, bound, bound), true}, {api.Arena{Cols: math.MaxInt, Rows: 1, Signs: "...."}, box(0, 0, bound, bound), true}, {api.Arena{}, box(-bound, -bound, bound, bound), true},
		{api.Arena{Cols: math.MaxInt, Rows: math.MaxInt, Signs: "...."}, box(0, 0, 4*4096-1, 4095), false}, {api.Arena{Cols: math.MaxInt, Rows: math.MaxInt, Signs: "...."}, box(0, 0, 4*4096, 4095), true}, {api.Arena{Cols: math.MaxInt, Rows: math.MaxInt, Signs: "...."}, box(0, 0, 4*4096-1, 4096), true},
		{wide, box(0, 0, bound, 4095), false}, {wide, box(0, 0, bound, 4096), true}, {wide, box(-1, 0, bound, 4095), true}, {with(wide, 1<<18, '#'), box(0, 0, bound, 4095), true}, {with(wide, 1<<19-1, '#'), box(0, 0, bound, 4095), true}, {with(wide, 1<<19-1, '#'), box(0, 0, bound-4096, 4095), false},
	} {
		if got := arena.Touches(c.a, c.b); got != c.want {
			t.Errorf("%d columns, %d rows, %v: %v", c.a.Cols, c.a.Rows, c.b, got)
		}
	}
}

// someNumber is one about a map of so many cells, often at a cell's beginning or end.
func someNumber(rnd *rand.Rand, cells int) int {
	n := rnd.Intn((cells+3)*4096) - 4096
	if rnd.Intn(2) == 0 {
		return meantCell(n)*4096 + rnd.Intn(3) - 1
	}
	return n
}

func TestP6_5TouchesSome(t *testing.T) {
	rnd := rand.New(rand.NewSource(65))
	maps := append(goodMaps(66, 100), oddMaps()...)
	touching := 0
	for range 40000 {
		a := maps[rnd.Intn(len(maps))]
		cols, rows := min(max(a.Cols, 0), 40), min(max(a.Rows, 0), 40)
		p := at(someNumber(rnd, cols), someNumber(rnd, rows))
		b := box(p.X, p.Y, p.X+rnd.Intn(10000)-500, p.Y+rnd.Intn(10000)-500)
		if rnd.Intn(4) == 0 {
			b = box(p.X, p.Y, someNumber(rnd, cols), someNumber(rnd, rows))
		}
		got, want := arena.Touches(a, b), meantTouches(a, b)
		if got != want {
			t.Fatalf("Touches(%v, %v): %v", a, b, got)
		}
		if got {
			touching++
		}
	}
	if touching < 2000 || touching > 38000 {
		t.Errorf("the boxes are too much alike: %d of them touch", touching)
	}
}
