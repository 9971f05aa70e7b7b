// Package fixed is layer 1: see shared/doc/01-fixed.md.
//
// Every number that is handed in is bounded first: so the sums and products below stay far within an int of 64 bits.
package fixed

import "echelon/api"

// Bound is a number within the bounds of fixed ones.
func Bound(n int) int { return min(max(n, -api.MaxNum), api.MaxNum) }

// Of is a whole number as a fixed one; Whole is the whole part, downwards.
func Of(whole int) int { return Bound(Bound(whole) * api.One) }

func Whole(x int) int {
	x = Bound(x)
	if x < 0 {
		// Go's division goes towards 0; what is asked goes downwards.
		return -((-x + api.One - 1) / api.One)
	}
	return x / api.One
}

// Add, Sub and Mul stay within the bounds.
func Add(a, b int) int { return Bound(Bound(a) + Bound(b)) }

func Sub(a, b int) int { return Bound(Bound(a) - Bound(b)) }

func Mul(a, b int) int { return Bound(rounded(Bound(a)*Bound(b), api.One)) }

// Div is a by b.
func Div(a, b int) (int, api.Errno) {
	a, b = Bound(a), Bound(b)
	if b == 0 {
		return 0, api.ErrFixedNought
	}
	if b < 0 {
		a, b = -a, -b
	}
	return Bound(rounded(a*api.One, b)), api.OK
}

// rounded is n / d to the nearest whole number (d is above 0). The sign is set aside, so that halves go away from 0 on either side.
func rounded(n, d int) int {
	if n < 0 {
		return -rounded(-n, d)
	}
	return (n + d/2) / d
}

// Abs is a number's size.
func Abs(x int) int {
	x = Bound(x)
	return max(x, -x)
}

// rootBits is how many bits a root takes: 256 MaxNum is below 2^40.
const rootBits = 20

// Root is the root, downwards.
func Root(x int) (int, api.Errno) {
	x = Bound(x)
	if x < 0 {
		return 0, api.ErrFixedBelow
	}
	root := 0
	for bit := 1 << (rootBits - 1); bit > 0; bit >>= 1 {
		if next := root + bit; next*next <= x*api.One {
			root = next
		}
	}
	return root, api.OK
}

// Clamp is a number within two others.
func Clamp(x, least, most int) int {
	return min(max(Bound(x), Bound(least)), Bound(most))
}

// Blend is what lies between two numbers.
func Blend(a, b, t int) int {
	a, b, t = Bound(a), Bound(b), Clamp(t, 0, api.One)
	// The difference is not bounded: else b could not be reached from an a that is far off.
	return a + rounded((b-a)*t, api.One)
}
