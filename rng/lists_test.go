package rng_test

import (
	"math"
	"math/big"
	"math/rand"
	"slices"
	"testing"

	"echelon/api"
	"echelon/digest"
	"echelon/rng"
)

// meantPlace is what P4.3 says of weights, errors too, word by word.
func meantPlace(a ask, weights []int) (int, api.Errno) {
	if len(weights) > 64 {
		return 0, api.ErrLong
	}
	sum := new(big.Int)
	for _, w := range weights {
		if w < 0 || w > 2147483647 {
			return 0, api.ErrArg
		}
		sum.Add(sum, whole(w))
	}
	if sum.Sign() == 0 {
		return 0, api.ErrRngNone
	}
	left, upTo := meantLeft(meantNumber(a), sum), new(big.Int)
	for at, w := range weights {
		if upTo.Add(upTo, whole(w)); upTo.Cmp(left) > 0 {
			return at, api.OK
		}
	}
	panic("what is left is not below the sum")
}

func checkWeighted(t *testing.T, a ask, weights []int) {
	t.Helper()
	want, errno := meantPlace(a, weights)
	if got, e := rng.Weighted(a.seed, a.frame, a.use, weights); got != want || e != errno {
		t.Fatalf("Weighted(%v, %v): %d %d, want %d %d", a, weights, got, e, want, errno)
	}
}

// filled are n weights w.
func filled(n, w int) []int { return slices.Repeat([]int{w}, n) }

// with are weights of which one is another one.
func with(weights []int, at, w int) []int {
	weights = slices.Clone(weights)
	weights[at] = w
	return weights
}

func TestP4_3Weighted(t *testing.T) {
	lists := [][]int{
		{1}, {5}, {0, 0, 9}, {9, 0, 0}, {0, 9, 0}, {8, 1, 1}, {1, 1, 8}, {1, 0, 1, 0, 1}, {api.MaxNum},
		{api.MaxNum, 0}, {0, api.MaxNum}, {1, api.MaxNum}, {api.MaxNum, api.MaxNum, api.MaxNum},
		filled(63, 1), filled(64, 1), filled(64, api.MaxNum), filled(63, api.MaxNum),
		with(filled(64, 0), 0, 1), with(filled(64, 0), 63, 1), with(filled(64, api.MaxNum), 63, 0),
	}
	for _, a := range asks(50, 500) {
		for _, weights := range lists {
			checkWeighted(t, a, weights)
		}
	}
}

// Every place of every short list of small weights is where the weights turn.
func TestP4_3WeightedOfAllShortLists(t *testing.T) {
	for _, a := range asks(51, 20) {
		for n := range 4 * 4 * 4 * 4 {
			checkWeighted(t, a, []int{n & 3, n >> 2 & 3, n >> 4 & 3, n >> 6 & 3})
		}
	}
}

func TestP4_3WeightedOfRandomLists(t *testing.T) {
	rnd := rand.New(rand.NewSource(52))
	for _, a := range asks(52, 20000) {
		weights := make([]int, rnd.Intn(66))
		for i := range weights {
			weights[i] = rnd.Intn(api.MaxNum+1) >> rnd.Intn(32)
		}
		if len(weights) > 0 && rnd.Intn(20) == 0 {
			weights[rnd.Intn(len(weights))] = someInt(rnd)
		}
		checkWeighted(t, a, weights)
	}
}

func TestP4_3WeightedErrors(t *testing.T) {
	for _, c := range []struct {
		name    string
		weights []int
		at      int
		errno   api.Errno
	}{
		{"an example", []int{0, 0, 9}, 2, api.OK},
		{"nil", nil, 0, api.ErrRngNone},
		{"empty", []int{}, 0, api.ErrRngNone},
		{"noughts", []int{0, 0}, 0, api.ErrRngNone},
		{"64 noughts", filled(64, 0), 0, api.ErrRngNone},
		{"65 noughts", filled(65, 0), 0, api.ErrLong},
		{"65 ones", filled(65, 1), 0, api.ErrLong},
		{"65, of which none may be", filled(65, -1), 0, api.ErrLong},
		{"64, of which none may be", filled(64, -1), 0, api.ErrArg},
		{"below nought, ahead", []int{-1, 1}, 0, api.ErrArg},
		{"below nought, behind", []int{1, -1}, 0, api.ErrArg},
		{"below nought, alone", []int{-1}, 0, api.ErrArg},
		{"below nought, beside noughts", []int{0, -1, 0}, 0, api.ErrArg},
		{"the greatest", []int{0, api.MaxNum}, 1, api.OK},
		{"above the greatest", []int{0, api.MaxNum + 1}, 0, api.ErrArg},
		{"above the greatest, the last of 64", with(filled(64, 1), 63, api.MaxNum+1), 0, api.ErrArg},
		{"the greatest int", []int{1, math.MaxInt}, 0, api.ErrArg},
		{"the least int", []int{1, math.MinInt}, 0, api.ErrArg},
		{"together round the bounds", []int{math.MinInt, math.MinInt}, 0, api.ErrArg},
	} {
		if at, errno := rng.Weighted(7, 1, 0, c.weights); at != c.at || errno != c.errno {
			t.Errorf("%s: %d %d, want %d %d", c.name, at, errno, c.at, c.errno)
		}
	}
}

func TestP4_3WeightsStayAsTheyWere(t *testing.T) {
	for _, weights := range [][]int{{0, 0, 9}, {3, 2, 1}, {1, 2, 3}, {0, 0}, {4, -1}, filled(64, 5), filled(65, 5)} {
		room := append(slices.Clone(weights), 71, 72, 73)
		before := slices.Clone(room)
		at, errno := rng.Weighted(7, 1, 0, room[:len(weights)])
		if !slices.Equal(room, before) {
			t.Errorf("%v: have become %v", weights, room[:len(weights)])
		}
		clear(room) // kept hold of, they would tell in the next answer
		if again, e := rng.Weighted(7, 1, 0, weights); again != at || e != errno {
			t.Errorf("%v: %d %d, then %d %d", weights, at, errno, again, e)
		}
	}
}

// meantOrder is what P4.4 says, word by word; n may be.
func meantOrder(a ask, n int) []int {
	var list []int
	for i := range n {
		list = append(list, i)
	}
	for i := n - 1; i >= 1; i-- {
		j := meantLeft(digest.Chain(meantNumber(a), uint64(i)), whole(i+1)).Int64()
		one, other := list[i], list[j]
		list[i], list[j] = other, one
	}
	return list
}

func TestP4_4Order(t *testing.T) {
	for _, a := range asks(53, 200) {
		for n := range 65 {
			list, errno := rng.Order(a.seed, a.frame, a.use, n)
			if want := meantOrder(a, n); !slices.Equal(list, want) || errno != api.OK {
				t.Fatalf("Order(%v, %d): %v %d, want %v", a, n, list, errno, want)
			}
		}
	}
}

func TestP4_4OrderOfNoneAndOfTooMany(t *testing.T) {
	for _, c := range []struct {
		n, many int
		errno   api.Errno
	}{
		{0, 0, api.OK}, {1, 1, api.OK}, {64, 64, api.OK}, {65, 0, api.ErrArg}, {66, 0, api.ErrArg}, {-1, 0, api.ErrArg},
		{math.MaxInt, 0, api.ErrArg}, {math.MinInt, 0, api.ErrArg},
	} {
		if list, errno := rng.Order(7, 1, 0, c.n); len(list) != c.many || errno != c.errno {
			t.Errorf("Order(7, 1, 0, %d): %v %d", c.n, list, errno)
		}
	}
	if list, _ := rng.Order(7, 1, 0, 1); list[0] != 0 {
		t.Errorf("Order(7, 1, 0, 1): %v", list)
	}
}

// All orders of a few numbers come, about as often as one another.
func TestP4_4OrderLeavesNoneOut(t *testing.T) {
	seen := map[[4]int]int{}
	for frame := range int64(24000) {
		list, _ := rng.Order(7, frame, 0, 4)
		seen[[4]int(list)]++
	}
	if len(seen) != 24 {
		t.Errorf("%d orders of 24", len(seen))
	}
	for order, often := range seen {
		if often < 800 || often > 1200 {
			t.Errorf("%v: %d times of about 1000", order, often)
		}
	}
}

func TestP4_4OrdersAreTheirOwners(t *testing.T) {
	for _, n := range []int{0, 1, 2, 7, 63, 64} {
		one, _ := rng.Order(7, 1, 0, n)
		before := slices.Clone(one)
		other, _ := rng.Order(7, 1, 0, n)
		for _, list := range [][]int{other[:cap(other)], append(other, 99), append(other, 98, 97)} {
			for i := range list {
				list[i] = -1
			}
		}
		again, _ := rng.Order(7, 1, 0, n)
		if !slices.Equal(one, before) || !slices.Equal(again, before) {
			t.Errorf("%d: %v, %v, want %v", n, one, again, before)
		}
	}
}
