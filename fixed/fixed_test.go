package fixed_test

import (
	"math"
	"math/big"
	"math/rand"
	"testing"

	"echelon/api"
	"echelon/fixed"
)

const most = api.MaxNum

// samples are the edges that the document names, what lies beside them, what lies beyond the bounds, and some numbers of each size.
func samples() []int {
	out := []int{math.MinInt, math.MaxInt, math.MinInt + 1}
	for _, n := range []int{0, 127, 128, 255, 256, 384, 511, 512, 768, 741455, most / 2, most, 1 << 31, 1 << 32, 1 << 40, 1 << 55, 1 << 62} {
		for d := -2; d <= 2; d++ {
			out = append(out, n+d, -n+d)
		}
	}
	r := rand.New(rand.NewSource(1))
	for bits := range 34 {
		out = append(out, r.Intn(1<<bits), -r.Intn(1<<bits))
	}
	return out
}

func few() []int {
	return []int{math.MinInt, -1 << 40, -most - 1, -most, -most + 1, -70000, -511, -256, -129, -128, -127, -3, -1, 0, 1, 2, 127, 128, 129, 255, 256, 257, 9999, 123456789, most - 1, most, most + 1, 1 << 40, math.MaxInt}
}

// The true answers, by numbers without bounds.

func bounded(n *big.Int) int {
	m := big.NewInt(most)
	if n.CmpAbs(m) > 0 {
		return most * n.Sign()
	}
	return int(n.Int64())
}

func in(n int) *big.Int { return big.NewInt(int64(bounded(big.NewInt(int64(n))))) }

func nearest(n, d *big.Int) *big.Int {
	two := big.NewInt(2)
	a, b := new(big.Int).Abs(n), new(big.Int).Abs(d)
	q := new(big.Int).Quo(new(big.Int).Add(new(big.Int).Mul(a, two), b), new(big.Int).Mul(b, two))
	return q.Mul(q, big.NewInt(int64(n.Sign()*d.Sign())))
}

var one = big.NewInt(256)

func times(a, b *big.Int) *big.Int { return new(big.Int).Mul(a, b) }

func TestP1_1(t *testing.T) {
	for _, c := range []struct{ got, want int }{
		{fixed.Bound(1 << 40), most}, {fixed.Bound(-1 << 40), -most}, {fixed.Bound(most + 1), most}, {fixed.Bound(-most - 1), -most}, {fixed.Bound(most), most}, {fixed.Bound(-most), -most}, {fixed.Bound(0), 0}, {fixed.Bound(math.MinInt), -most}, {fixed.Bound(math.MaxInt), most},
		{fixed.Of(3), 768}, {fixed.Of(-3), -768}, {fixed.Of(0), 0}, {fixed.Of(8388607), 2147483392}, {fixed.Of(8388608), most}, {fixed.Of(-8388608), -most}, {fixed.Of(-1 << 40), -most}, {fixed.Of(1 << 56), most}, {fixed.Of(1<<56 + 1), most}, {fixed.Of(math.MinInt), -most}, {fixed.Of(math.MaxInt), most},
		{fixed.Whole(-1), -1}, {fixed.Whole(511), 1}, {fixed.Whole(512), 2}, {fixed.Whole(0), 0}, {fixed.Whole(-256), -1}, {fixed.Whole(-257), -2}, {fixed.Whole(most), 8388607}, {fixed.Whole(-most), -8388608}, {fixed.Whole(1 << 40), 8388607}, {fixed.Whole(math.MinInt), -8388608},
	} {
		if c.got != c.want {
			t.Errorf("%d, want %d", c.got, c.want)
		}
	}
	for _, n := range samples() {
		b := big.NewInt(int64(n))
		if got, want := fixed.Bound(n), bounded(b); got != want {
			t.Errorf("Bound(%d): %d, want %d", n, got, want)
		}
		if got, want := fixed.Of(n), bounded(times(b, one)); got != want {
			t.Errorf("Of(%d): %d, want %d", n, got, want)
		}
		x := fixed.Bound(n)
		if w := fixed.Whole(n); 256*w > x || 256*(w+1) <= x {
			t.Errorf("Whole(%d): %d", n, w)
		}
	}
}

func TestP1_2(t *testing.T) {
	for _, c := range []struct{ got, want int }{
		{fixed.Add(most, 1), most}, {fixed.Add(-most, -1), -most}, {fixed.Add(1<<40, -1), most - 1}, {fixed.Add(2, -5), -3}, {fixed.Add(math.MaxInt, math.MaxInt), most}, {fixed.Add(math.MaxInt, math.MinInt), 0},
		{fixed.Sub(-most, 1<<40), -most}, {fixed.Sub(5, 7), -2}, {fixed.Sub(most, -1), most}, {fixed.Sub(0, math.MinInt), most},
		{fixed.Mul(1, 128), 1}, {fixed.Mul(-1, 128), -1}, {fixed.Mul(1, 127), 0}, {fixed.Mul(-1, 127), 0}, {fixed.Mul(-1, -128), 1}, {fixed.Mul(384, 512), 768}, {fixed.Mul(3, 128), 2}, {fixed.Mul(-3, 128), -2}, {fixed.Mul(most, most), most}, {fixed.Mul(-most, most), -most}, {fixed.Mul(1<<40, 1), 8388608}, {fixed.Mul(math.MinInt, math.MinInt), most},
	} {
		if c.got != c.want {
			t.Errorf("%d, want %d", c.got, c.want)
		}
	}
	for _, a := range samples() {
		for _, b := range samples() {
			if got, want := fixed.Add(a, b), bounded(new(big.Int).Add(in(a), in(b))); got != want {
				t.Errorf("Add(%d, %d): %d, want %d", a, b, got, want)
			}
			if got, want := fixed.Sub(a, b), bounded(new(big.Int).Sub(in(a), in(b))); got != want {
				t.Errorf("Sub(%d, %d): %d, want %d", a, b, got, want)
			}
			if got, want := fixed.Mul(a, b), bounded(nearest(times(in(a), in(b)), one)); got != want {
				t.Errorf("Mul(%d, %d): %d, want %d", a, b, got, want)
			}
		}
	}
}

func TestP1_3(t *testing.T) {
	for _, c := range []struct {
		a, b, want int
		e          api.Errno
	}{
		{256, 768, 85, api.OK}, {-256, 512, -128, api.OK}, {most, 1, most, api.OK}, {-most, 1, -most, api.OK}, {most, -1, -most, api.OK},
		{1, 0, 0, api.ErrFixedNought}, {0, 0, 0, api.ErrFixedNought}, {math.MinInt, 0, 0, api.ErrFixedNought},
		{1, 512, 1, api.OK}, {-1, 512, -1, api.OK}, {1, -512, -1, api.OK}, {-1, -512, 1, api.OK}, {1, 513, 0, api.OK}, {-1, 513, 0, api.OK}, {3, 512, 2, api.OK}, {-3, 512, -2, api.OK}, {2, 3, 171, api.OK}, {1, 3, 85, api.OK},
		{1 << 40, 1 << 50, 256, api.OK}, {math.MinInt, math.MaxInt, -256, api.OK}, {0, math.MinInt, 0, api.OK},
	} {
		if n, e := fixed.Div(c.a, c.b); n != c.want || e != c.e {
			t.Errorf("Div(%d, %d): %d %d, want %d %d", c.a, c.b, n, e, c.want, c.e)
		}
	}
	for _, a := range samples() {
		for _, b := range samples() {
			if b == 0 {
				continue
			}
			want := bounded(nearest(times(in(a), one), in(b)))
			if got, e := fixed.Div(a, b); got != want || e != api.OK {
				t.Errorf("Div(%d, %d): %d %d, want %d", a, b, got, e, want)
			}
		}
	}
}

func TestP1_4(t *testing.T) {
	for _, c := range []struct{ x, want int }{{-5, 5}, {5, 5}, {0, 0}, {-most, most}, {most, most}, {1 << 40, most}, {-1 << 40, most}, {math.MinInt, most}} {
		if got := fixed.Abs(c.x); got != c.want {
			t.Errorf("Abs(%d): %d, want %d", c.x, got, c.want)
		}
	}
	for _, c := range []struct {
		x, want int
		e       api.Errno
	}{
		{512, 362, api.OK}, {0, 0, api.OK}, {1, 16, api.OK}, {2, 22, api.OK}, {256, 256, api.OK}, {255, 255, api.OK}, {1024, 512, api.OK}, {most, 741455, api.OK}, {1 << 40, 741455, api.OK}, {math.MaxInt, 741455, api.OK},
		{-1, 0, api.ErrFixedBelow}, {-most, 0, api.ErrFixedBelow}, {math.MinInt, 0, api.ErrFixedBelow},
	} {
		if n, e := fixed.Root(c.x); n != c.want || e != c.e {
			t.Errorf("Root(%d): %d %d, want %d %d", c.x, n, e, c.want, c.e)
		}
	}
	xs := samples()
	for x := range 5000 {
		xs = append(xs, x, x*x/256, x*x*16, x*x*16-1) // with squares, and what lies just below them
	}
	for _, n := range xs {
		x := fixed.Bound(n)
		if x < 0 {
			continue
		}
		if r, e := fixed.Root(n); e != api.OK || r < 0 || r*r > 256*x || (r+1)*(r+1) <= 256*x {
			t.Errorf("Root(%d): %d %d", n, r, e)
		}
	}
}

func TestP1_5(t *testing.T) {
	for _, c := range []struct{ x, least, most, want int }{
		{5, 10, 20, 10}, {5, 10, 3, 3}, {5, 1, 3, 3}, {2, 1, 3, 2}, {1, 1, 3, 1}, {3, 1, 3, 3}, {25, 10, 20, 20}, {25, 20, 10, 10}, {15, 20, 10, 10}, {-5, -10, -7, -7},
		{1 << 40, -1 << 40, 1 << 41, most}, {-1 << 40, -1 << 41, 0, -most}, {0, 1 << 40, math.MaxInt, most}, {0, math.MinInt, -1 << 40, -most}, {math.MinInt, math.MinInt, math.MaxInt, -most},
	} {
		if got := fixed.Clamp(c.x, c.least, c.most); got != c.want {
			t.Errorf("Clamp(%d, %d, %d): %d, want %d", c.x, c.least, c.most, got, c.want)
		}
	}
}

func TestP1_6(t *testing.T) {
	for _, c := range []struct{ a, b, t, want int }{
		{0, 100, 128, 50}, {0, -1, 128, -1}, {0, 1, 128, 1}, {0, 1, 127, 0}, {0, -1, 127, 0}, {1, 0, 128, 0}, {7, 9, -1, 7}, {7, 9, 999, 9}, {7, 9, 0, 7}, {7, 9, 256, 9}, {7, 9, 257, 9}, {7, 9, math.MinInt, 7}, {7, 9, math.MaxInt, 9},
		{-most, most, 128, 0}, {most, -most, 128, 0}, {-most, most, 64, -1073741823}, {-most, most, 256, most}, {most, -most, 256, -most},
		{-1 << 40, 1 << 40, 128, 0}, {0, math.MaxInt, 256, most}, {math.MinInt, 0, 0, -most},
	} {
		if got := fixed.Blend(c.a, c.b, c.t); got != c.want {
			t.Errorf("Blend(%d, %d, %d): %d, want %d", c.a, c.b, c.t, got, c.want)
		}
	}
	for _, a := range samples() {
		for _, b := range few() {
			for _, n := range []int{math.MinInt, -1, 0, 1, 2, 3, 63, 64, 127, 128, 129, 200, 255, 256, 257, math.MaxInt} {
				by := big.NewInt(int64(min(max(n, 0), 256)))
				part := nearest(times(new(big.Int).Sub(in(b), in(a)), by), one)
				if got, want := fixed.Blend(a, b, n), bounded(part.Add(part, in(a))); got != want {
					t.Errorf("Blend(%d, %d, %d): %d, want %d", a, b, n, got, want)
				}
			}
		}
	}
}

func TestP1_8Sums(t *testing.T) {
	xs := samples()
	for _, a := range xs {
		for _, b := range xs {
			if fixed.Add(a, b) != fixed.Add(b, a) || fixed.Mul(a, b) != fixed.Mul(b, a) {
				t.Errorf("%d, %d: the order counts", a, b)
			}
			x, y := fixed.Bound(a), fixed.Bound(b)
			if s := x + y; s == fixed.Bound(s) && fixed.Sub(fixed.Add(a, b), b) != x {
				t.Errorf("Sub(Add(%d, %d), %d) is another one", a, b, b)
			}
			if x < y {
				continue
			}
			for _, c := range few() {
				if fixed.Add(a, c) < fixed.Add(b, c) {
					t.Errorf("Add(%d, %d) is below Add(%d, %d)", a, c, b, c)
				}
				if c >= 0 && fixed.Mul(a, c) < fixed.Mul(b, c) {
					t.Errorf("Mul(%d, %d) is below Mul(%d, %d)", a, c, b, c)
				}
			}
		}
	}
}

func size(n int) int { return max(n, -n) }

func inside(n int) bool { return -most < n && n < most }

func TestP1_8Products(t *testing.T) {
	for _, a := range samples() {
		x := fixed.Bound(a)
		if d, e := fixed.Div(a, api.One); fixed.Mul(a, api.One) != x || d != x || e != api.OK {
			t.Errorf("%d by One is another one", a)
		}
		for _, b := range samples() {
			y := fixed.Bound(b)
			if m := fixed.Mul(a, b); inside(m) && size(256*m-x*y) > 128 {
				t.Errorf("Mul(%d, %d) is off: %d", a, b, m)
			}
			if d, e := fixed.Div(a, b); e == api.OK && inside(d) && 2*size(d*y-256*x) > size(y) {
				t.Errorf("Div(%d, %d) is off: %d", a, b, d)
			}
		}
	}
}

// Below 38 the square is so small that its rounding alone moves the root by more than a part (Mul(11, 11) is 0): there P1.2 and P1.4 leave no choice.
func TestP1_8Roots(t *testing.T) {
	check := func(x int) {
		for _, x := range []int{x, -x} {
			if r, e := fixed.Root(fixed.Mul(x, x)); e != api.OK || size(r-fixed.Abs(x)) > 1 {
				t.Errorf("Root(Mul(%d, %d)): %d %d", x, x, r, e)
			}
		}
	}
	check(0)
	check(1)
	for x := 38; x < 100000; x++ {
		check(x)
	}
	for x := 100000; x <= 741455; x += 97 {
		check(x)
	}
	check(741455) // no greater one has its square within the bounds
}

func TestP1_9Blend(t *testing.T) {
	for _, a := range few() {
		for _, b := range few() {
			x, y := fixed.Bound(a), fixed.Bound(b)
			if fixed.Blend(a, b, 0) != x || fixed.Blend(a, b, 256) != y {
				t.Errorf("Blend(%d, %d) does not begin and end there", a, b)
			}
			last := x
			for n := range 257 {
				p := fixed.Blend(a, b, n)
				if p < min(x, y) || p > max(x, y) || x <= y && p < last || x >= y && p > last {
					t.Errorf("Blend(%d, %d, %d): %d behind %d", a, b, n, p, last)
				}
				last = p
			}
		}
	}
}

func TestP1_9Clamp(t *testing.T) {
	for _, x := range samples() {
		for _, a := range few() {
			for _, b := range few() {
				c := fixed.Clamp(x, a, b)
				if fixed.Clamp(c, a, b) != c || c != fixed.Bound(c) {
					t.Errorf("Clamp of Clamp(%d, %d, %d) is another one", x, a, b)
				}
			}
		}
	}
}
