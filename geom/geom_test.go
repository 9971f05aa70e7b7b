package geom_test

import (
	"math"
	"math/big"
	"math/rand"
	"testing"

	"echelon/api"
	"echelon/fixed"
	"echelon/geom"
)

const bound = api.MaxNum

func at(x, y int) api.Point { return api.Point{X: x, Y: y} }

// edges are the numbers about which something changes, on either side of 0.
func edges() []int {
	return []int{
		math.MinInt, math.MinInt + 1, -1 << 40, -1 << 32, -bound - 2, -bound - 1, -bound, -bound + 1, -257, -256, -128, -4, -3, -2, -1, 0,
		1, 2, 3, 4, 128, 256, 257, bound - 1, bound, bound + 1, bound + 2, 1 << 32, 1 << 40, math.MaxInt - 1, math.MaxInt,
	}
}

// someInt is one of any size, on either side of 0; most of them are within the bounds.
func someInt(rnd *rand.Rand) int {
	if rnd.Intn(8) == 0 {
		return int(rnd.Uint64()) >> rnd.Intn(64)
	}
	return int(int32(rnd.Uint32())) >> rnd.Intn(32)
}

// points are all pairs of edges, and more of any size.
func points(seed int64, more int) []api.Point {
	var all []api.Point
	for _, x := range edges() {
		for _, y := range edges() {
			all = append(all, at(x, y))
		}
	}
	rnd := rand.New(rand.NewSource(seed))
	for range more {
		all = append(all, at(someInt(rnd), someInt(rnd)))
	}
	return all
}

// The true answers, by numbers without bounds.

func meantBound(n *big.Int) int {
	if n.CmpAbs(big.NewInt(bound)) > 0 {
		return bound * n.Sign()
	}
	return int(n.Int64())
}

func meantIn(n int) *big.Int { return big.NewInt(int64(meantBound(big.NewInt(int64(n))))) }

func meantSquare(p api.Point) *big.Int {
	x, y := meantIn(p.X), meantIn(p.Y)
	return new(big.Int).Add(x.Mul(x, x), y.Mul(y, y))
}

// meantReach is the greatest n of P5.2, not bounded.
func meantReach(p api.Point) *big.Int { return new(big.Int).Sqrt(meantSquare(p)) }

func meantSize(n int) int { return min(max(n, 0), bound) }

func meantCap(p api.Point, most int) api.Point {
	n, by := meantReach(p), big.NewInt(int64(meantSize(most)))
	if n.Cmp(by) <= 0 {
		return at(int(meantIn(p.X).Int64()), int(meantIn(p.Y).Int64()))
	}
	n.Add(n, big.NewInt(1))
	part := func(one int) int {
		product := new(big.Int).Mul(meantIn(one), by)
		return int(product.Quo(product, n).Int64())
	}
	return at(part(p.X), part(p.Y))
}

func TestP5_1Bound(t *testing.T) {
	for _, c := range []struct{ p, want api.Point }{
		{at(0, 0), at(0, 0)}, {at(3, -7), at(3, -7)}, {at(bound, -bound), at(bound, -bound)}, {at(-bound, bound), at(-bound, bound)},
		{at(bound+1, 5), at(bound, 5)}, {at(5, bound+1), at(5, bound)}, {at(-bound-1, 5), at(-bound, 5)}, {at(5, -bound-1), at(5, -bound)},
		{at(math.MaxInt, math.MinInt), at(bound, -bound)}, {at(math.MinInt, math.MaxInt), at(-bound, bound)},
	} {
		if got := geom.Bound(c.p); got != c.want {
			t.Errorf("Bound(%v): %v, want %v", c.p, got, c.want)
		}
	}
	for _, p := range points(1, 20000) {
		if got, want := geom.Bound(p), at(int(meantIn(p.X).Int64()), int(meantIn(p.Y).Int64())); got != want {
			t.Fatalf("Bound(%v): %v, want %v", p, got, want)
		}
	}
}

func TestP5_1AddSub(t *testing.T) {
	for _, c := range []struct{ a, b, sum, rest api.Point }{
		{at(1, 2), at(30, 40), at(31, 42), at(-29, -38)},
		{at(-5, 6), at(7, -9), at(2, -3), at(-12, 15)},
		{at(bound, -bound), at(1, -1), at(bound, -bound), at(bound-1, -bound+1)},
		{at(bound, bound), at(bound, -bound), at(bound, 0), at(0, bound)},
		{at(math.MaxInt, math.MinInt), at(math.MaxInt, math.MinInt), at(bound, -bound), at(0, 0)},
		{at(1<<40, -1<<40), at(-1, 1), at(bound-1, -bound+1), at(bound, -bound)},
	} {
		if sum, rest := geom.Add(c.a, c.b), geom.Sub(c.a, c.b); sum != c.sum || rest != c.rest {
			t.Errorf("Add, Sub(%v, %v): %v %v, want %v %v", c.a, c.b, sum, rest, c.sum, c.rest)
		}
	}
	all := points(2, 20000)
	rnd := rand.New(rand.NewSource(2))
	for _, a := range all {
		b := all[rnd.Intn(len(all))]
		if got, want := geom.Add(a, b), at(fixed.Add(a.X, b.X), fixed.Add(a.Y, b.Y)); got != want {
			t.Fatalf("Add(%v, %v): %v, want %v", a, b, got, want)
		}
		if got, want := geom.Sub(a, b), at(fixed.Sub(a.X, b.X), fixed.Sub(a.Y, b.Y)); got != want {
			t.Fatalf("Sub(%v, %v): %v, want %v", a, b, got, want)
		}
	}
}

func TestP5_1Scale(t *testing.T) {
	for _, c := range []struct {
		p    api.Point
		by   int
		want api.Point
	}{
		{at(512, -1), 128, at(256, -1)}, {at(1, -1), 127, at(0, 0)}, {at(3, -3), 128, at(2, -2)}, {at(256, 98), 1024, at(1024, 392)},
		{at(7, -9), 256, at(7, -9)}, {at(7, -9), -256, at(-7, 9)}, {at(7, -9), 0, at(0, 0)},
		{at(bound, -bound), bound, at(bound, -bound)}, {at(bound, -bound), math.MinInt, at(-bound, bound)}, {at(1<<40, -1<<40), 1, at(8388608, -8388608)},
		{at(1, -1), math.MaxInt, at(8388608, -8388608)}, {at(math.MinInt, math.MaxInt), 256, at(-bound, bound)},
	} {
		if got := geom.Scale(c.p, c.by); got != c.want {
			t.Errorf("Scale(%v, %d): %v, want %v", c.p, c.by, got, c.want)
		}
	}
	rnd := rand.New(rand.NewSource(3))
	for _, p := range points(3, 20000) {
		for _, by := range []int{someInt(rnd), edges()[rnd.Intn(len(edges()))]} {
			if got, want := geom.Scale(p, by), at(fixed.Mul(p.X, by), fixed.Mul(p.Y, by)); got != want {
				t.Fatalf("Scale(%v, %d): %v, want %v", p, by, got, want)
			}
		}
	}
}

func checkLength(t *testing.T, p api.Point) {
	t.Helper()
	if got, want := geom.Length(p), meantBound(meantReach(p)); got != want {
		t.Fatalf("Length(%v): %d, want %d", p, got, want)
	}
}

func TestP5_2Length(t *testing.T) {
	for _, c := range []struct {
		p    api.Point
		want int
	}{
		{at(0, 0), 0}, {at(3, 4), 5}, {at(3, -4), 5}, {at(-4, -3), 5}, {at(-256, 0), 256}, {at(0, 256), 256}, {at(1, 1), 1}, {at(2, 2), 2}, {at(0, 1), 1},
		{at(bound, 0), bound}, {at(0, -bound), bound}, {at(bound, 1), bound}, {at(bound-1, 0), bound - 1}, {at(bound-1, 1), bound - 1}, {at(bound-1, 65534), bound - 1}, {at(bound-1, 65536), bound},
		{at(bound, bound), bound}, {at(-bound, bound), bound}, {at(bound+1, 0), bound}, {at(math.MinInt, 0), bound}, {at(0, math.MinInt), bound}, {at(math.MinInt, math.MaxInt), bound}, {at(math.MinInt, 3), bound},
		{at(1518500249, 1518500249), bound - 1}, {at(1518500250, 1518500250), bound}, {at(1288490188, 1717986917), bound - 1},
	} {
		if got := geom.Length(c.p); got != c.want {
			t.Errorf("Length(%v): %d, want %d", c.p, got, c.want)
		}
	}
	for _, p := range points(4, 50000) {
		checkLength(t, p)
	}
	for x := -60; x <= 60; x++ {
		for y := -60; y <= 60; y++ {
			checkLength(t, at(x, y))
		}
	}
}

// Ways whose length comes out even, and what lies just beside them.
func TestP5_2LengthAboutWholeOnes(t *testing.T) {
	for _, k := range []int{1, 2, 5, 255, 256, 65535, 65536, 1 << 20, 1 << 24, bound / 13, bound / 12, bound / 5} {
		for _, c := range [][3]int{{3, 4, 5}, {5, 12, 13}, {8, 15, 17}} {
			p := at(c[0]*k, -c[1]*k)
			if got := geom.Length(p); fixed.Bound(p.Y) == p.Y && got != min(c[2]*k, bound) {
				t.Errorf("Length(%v): %d, want %d", p, got, c[2]*k)
			}
			for _, d := range []int{-1, 1} {
				checkLength(t, at(p.X+d, p.Y))
				checkLength(t, at(p.X, p.Y+d))
			}
		}
	}
}

func checkCap(t *testing.T, p api.Point, most int) {
	t.Helper()
	if got, want := geom.Cap(p, most), meantCap(p, most); got != want {
		t.Fatalf("Cap(%v, %d): %v, want %v", p, most, got, want)
	}
}

func TestP5_2Cap(t *testing.T) {
	for _, c := range []struct {
		p    api.Point
		most int
		want api.Point
	}{
		{at(300, 400), 500, at(300, 400)}, {at(300, 400), 501, at(300, 400)}, {at(300, 400), 499, at(298, 398)}, {at(300, 400), 250, at(149, 199)}, {at(-300, 400), 250, at(-149, 199)}, {at(300, -400), 250, at(149, -199)}, {at(300, 400), 1, at(0, 0)}, {at(300, 400), 0, at(0, 0)}, {at(300, 400), -1, at(0, 0)}, {at(300, 400), math.MinInt, at(0, 0)},
		{at(0, 0), 0, at(0, 0)}, {at(0, 0), -5, at(0, 0)}, {at(0, 0), 5, at(0, 0)}, {at(1, 1), 1, at(1, 1)}, {at(1, 1), 0, at(0, 0)},
		{at(bound, 0), bound, at(bound, 0)}, {at(bound, 0), bound - 1, at(bound-2, 0)}, {at(-bound, 0), math.MaxInt, at(-bound, 0)}, {at(0, math.MinInt), math.MaxInt, at(0, -bound)},
		{at(bound, bound), bound, at(1518500249, 1518500249)}, {at(bound, -bound), math.MaxInt, at(1518500249, -1518500249)}, {at(math.MaxInt, math.MinInt), bound + 1, at(1518500249, -1518500249)}, {at(math.MaxInt, math.MinInt), 1 << 40, at(1518500249, -1518500249)},
		{at(1<<40, 3), bound, at(bound, 3)}, {at(5, 1<<40), 1000, at(0, 999)},
	} {
		if got := geom.Cap(c.p, c.most); got != c.want {
			t.Errorf("Cap(%v, %d): %v, want %v", c.p, c.most, got, c.want)
		}
	}
	rnd := rand.New(rand.NewSource(5))
	for _, p := range points(5, 10000) {
		for _, most := range edges() {
			checkCap(t, p, most)
		}
		checkCap(t, p, someInt(rnd))
	}
}

// A cap of just the length leaves a way as it is, and the next lesser one doesn't: also where the length is beyond the bounds.
func TestP5_2CapAboutTheLength(t *testing.T) {
	for _, p := range points(6, 20000) {
		n := int(meantReach(p).Int64())
		for d := -2; d <= 2; d++ {
			checkCap(t, p, n+d)
		}
		if got := geom.Cap(p, n); n <= bound && got != geom.Bound(p) {
			t.Fatalf("Cap(%v, %d): %v", p, n, got)
		}
		if got := geom.Cap(p, n-1); n > 0 && got == geom.Bound(p) {
			t.Fatalf("Cap(%v, %d) leaves it as it is", p, n-1)
		}
	}
	for x := -12; x <= 12; x++ {
		for y := -12; y <= 12; y++ {
			for most := -2; most <= 20; most++ {
				checkCap(t, at(x, y), most)
			}
		}
	}
}

func sign(n int) int { return min(max(n, -1), 1) }

// sameOrNone tells whether a capped number leads the way of the one that it was, or nowhere.
func sameOrNone(capped, was int) bool {
	return capped == 0 || sign(capped) == sign(was)
}

func TestP5_6Cap(t *testing.T) {
	rnd := rand.New(rand.NewSource(7))
	for _, p := range points(7, 10000) {
		for _, most := range append(edges(), someInt(rnd), rnd.Intn(5000), int(meantReach(p).Int64())-1) {
			c := geom.Cap(p, most)
			if meantReach(c).Cmp(big.NewInt(int64(meantSize(most)))) > 0 || geom.Length(c) > max(most, 0) {
				t.Fatalf("Cap(%v, %d) is longer than that: %v", p, most, c)
			}
			if !sameOrNone(c.X, p.X) || !sameOrNone(c.Y, p.Y) {
				t.Fatalf("Cap(%v, %d) leads another way: %v", p, most, c)
			}
		}
	}
}
