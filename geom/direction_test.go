package geom_test

import (
	"math"
	"math/big"
	"math/rand"
	"testing"

	"echelon/api"
	"echelon/geom"
)

// meantUnits is the table of P5.3, column by column.
func meantUnits() [16]api.Point {
	return [16]api.Point{
		at(256, 0), at(237, 98), at(181, 181), at(98, 237),
		at(0, 256), at(-98, 237), at(-181, 181), at(-237, 98),
		at(-256, 0), at(-237, -98), at(-181, -181), at(-98, -237),
		at(0, -256), at(98, -237), at(181, -181), at(237, -98),
	}
}

// meantDirection is what is left of a number, divided by 16: 0 or above.
func meantDirection(n *big.Int) int {
	return int(new(big.Int).Mod(n, big.NewInt(16)).Int64())
}

func whole(n int) *big.Int { return big.NewInt(int64(n)) }

// numbers are those that may stand for directions: a few rounds of them, edges, and some of any size.
func numbers(seed int64, more int) []int {
	all := edges()
	for n := -49; n <= 49; n++ {
		all = append(all, n)
	}
	for n := range 20 {
		all = append(all, math.MinInt+n, math.MaxInt-n)
	}
	rnd := rand.New(rand.NewSource(seed))
	for range more {
		all = append(all, int(rnd.Uint64())>>rnd.Intn(64))
	}
	return all
}

func TestP5_3Unit(t *testing.T) {
	for _, c := range []struct {
		direction int
		want      api.Point
	}{
		{0, at(256, 0)}, {3, at(98, 237)}, {4, at(0, 256)}, {8, at(-256, 0)}, {12, at(0, -256)}, {15, at(237, -98)}, {16, at(256, 0)}, {17, at(237, 98)}, {31, at(237, -98)},
		{-1, at(237, -98)}, {-15, at(237, 98)}, {-16, at(256, 0)}, {-17, at(237, -98)}, {math.MinInt, at(256, 0)}, {math.MaxInt, at(237, -98)},
	} {
		if got := geom.Unit(c.direction); got != c.want {
			t.Errorf("Unit(%d): %v, want %v", c.direction, got, c.want)
		}
	}
	for _, n := range numbers(11, 20000) {
		if got, want := geom.Unit(n), meantUnits()[meantDirection(whole(n))]; got != want {
			t.Fatalf("Unit(%d): %v, want %v", n, got, want)
		}
	}
}

func TestP5_3Turn(t *testing.T) {
	for _, c := range []struct{ direction, by, want int }{
		{15, 2, 1}, {0, -1, 15}, {0, 0, 0}, {3, 4, 7}, {7, -7, 0}, {8, 8, 0}, {-1, -1, 14}, {16, 16, 0}, {100, -200, 12}, {5, 160, 5},
		{math.MaxInt, math.MaxInt, 14}, {math.MaxInt, 1, 0}, {math.MinInt, -1, 15}, {math.MinInt, math.MinInt, 0}, {math.MinInt, math.MaxInt, 15},
	} {
		if got := geom.Turn(c.direction, c.by); got != c.want {
			t.Errorf("Turn(%d, %d): %d, want %d", c.direction, c.by, got, c.want)
		}
	}
	all := numbers(12, 200)
	for _, direction := range all {
		for _, by := range all {
			want := meantDirection(new(big.Int).Add(whole(direction), whole(by)))
			if got := geom.Turn(direction, by); got != want {
				t.Fatalf("Turn(%d, %d): %d, want %d", direction, by, got, want)
			}
		}
	}
}

// meantHeading is what P5.3 says, word by word.
func meantHeading(p api.Point) int {
	best, greatest := 0, (*big.Int)(nil)
	for direction, u := range meantUnits() {
		x, y := meantIn(p.X), meantIn(p.Y)
		along := new(big.Int).Add(x.Mul(x, whole(u.X)), y.Mul(y, whole(u.Y)))
		if greatest == nil || along.Cmp(greatest) > 0 {
			best, greatest = direction, along
		}
	}
	return best
}

func checkHeading(t *testing.T, p api.Point) {
	t.Helper()
	if got, want := geom.Heading(p), meantHeading(p); got != want {
		t.Fatalf("Heading(%v): %d, want %d", p, got, want)
	}
}

func TestP5_3Heading(t *testing.T) {
	for _, c := range []struct {
		p    api.Point
		want int
	}{
		{at(0, 0), 0}, {at(5, 5), 2}, {at(-1, 0), 8}, {at(1, 0), 0}, {at(0, 1), 4}, {at(0, -1), 12}, {at(-5, 5), 6}, {at(-5, -5), 10}, {at(5, -5), 14},
		{at(2, 1), 1}, {at(1, 2), 3}, {at(-1, 2), 5}, {at(-2, 1), 7}, {at(-2, -1), 9}, {at(-1, -2), 11}, {at(1, -2), 13}, {at(2, -1), 15},
		{at(bound, 0), 0}, {at(-bound, -bound), 10}, {at(math.MaxInt, 0), 0}, {at(math.MinInt, 0), 8}, {at(0, math.MinInt), 12}, {at(math.MinInt, math.MaxInt), 6}, {at(math.MaxInt, math.MinInt), 14},
		{at(1<<40, 1<<32), 2}, // both count as MaxNum
	} {
		if got := geom.Heading(c.p); got != c.want {
			t.Errorf("Heading(%v): %d, want %d", c.p, got, c.want)
		}
	}
	for _, p := range points(13, 50000) {
		checkHeading(t, p)
	}
	for x := -130; x <= 130; x++ {
		for y := -130; y <= 130; y++ {
			checkHeading(t, at(x, y))
		}
	}
}

// Each direction and the next one lead some ways equally well: of both the lesser one is told, also of 15 and 0. A step aside it is the nearer one.
func TestP5_3HeadingBetweenTwo(t *testing.T) {
	for direction, u := range meantUnits() {
		next := (direction + 1) % 16
		v := meantUnits()[next]
		tie := at(v.Y-u.Y, u.X-v.X) // square to what lies between both
		for _, k := range []int{1, 2, 3, 1000, bound / 98} {
			p := at(tie.X*k, tie.Y*k)
			if got, want := geom.Heading(p), min(direction, next); got != want {
				t.Errorf("Heading(%v), between %d and %d: %d", p, direction, next, got)
			}
			if got := geom.Heading(at(p.X+sign(u.X-v.X), p.Y+sign(u.Y-v.Y))); got != direction {
				t.Errorf("%v, a step towards %d: %d", p, direction, got)
			}
			if got := geom.Heading(at(p.X-sign(u.X-v.X), p.Y-sign(u.Y-v.Y))); got != next {
				t.Errorf("%v, a step towards %d: %d", p, next, got)
			}
		}
	}
}

func TestP5_6UnitTheOtherWayRound(t *testing.T) {
	for _, n := range numbers(14, 1000) {
		u, v := geom.Unit(n), geom.Unit(geom.Turn(n, 8))
		if v != at(-u.X, -u.Y) {
			t.Errorf("Unit(%d): %v, and the other way round %v", n, u, v)
		}
		if geom.Unit(geom.Turn(n, -8)) != v {
			t.Errorf("%d: 8 back is not 8 further", n)
		}
	}
}

func TestP5_6TurnByTheSum(t *testing.T) {
	all := numbers(15, 20)
	for _, direction := range all {
		for _, some := range all {
			for _, others := range edges() {
				twice := geom.Turn(geom.Turn(direction, some), others)
				sum := geom.Turn(some, others)
				if twice != geom.Turn(direction, sum) || twice != geom.Turn(direction, some+others) {
					t.Fatalf("Turn of %d by %d and %d: %d", direction, some, others, twice)
				}
			}
		}
	}
}

func TestP5_6HeadingOfUnit(t *testing.T) {
	for _, n := range numbers(16, 1000) {
		if got, want := geom.Heading(geom.Unit(n)), meantDirection(whole(n)); got != want {
			t.Errorf("Heading(Unit(%d)): %d, want %d", n, got, want)
		}
	}
}
