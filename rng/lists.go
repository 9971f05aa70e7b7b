package rng

import (
	"slices"

	"echelon/api"
	"echelon/digest"
)

// Weighted is the place of one of some weights (P4.3).
func Weighted(seed uint64, frame int64, use int, weights []int) (int, api.Errno) {
	if len(weights) > api.MaxWeights {
		return 0, api.ErrLong
	}
	if slices.ContainsFunc(weights, isNoWeight) {
		return 0, api.ErrArg
	}
	if together(weights...) == 0 {
		return 0, api.ErrRngNone
	}
	return place(weights, takes(At(seed, frame, use))), api.OK
}

func isNoWeight(n int) bool { return n < 0 || n > api.MaxNum }

// together is what weights are in all: far from the bounds of uint64, as there are few of them.
func together(weights ...int) uint64 {
	var all uint64
	for _, w := range weights {
		all += uint64(w)
	}
	return all
}

// place ends within the weights, as what is taken is below all of them together; so there must be one above 0.
func place(weights []int, take taker) int {
	left := take(together(weights...))
	at, upTo := 0, uint64(weights[0])
	for upTo <= left {
		at++
		upTo += uint64(weights[at])
	}
	return at
}

// Order is the numbers below n in some order (P4.4).
func Order(seed uint64, frame int64, use, n int) ([]int, api.Errno) {
	if n < 0 || n > api.MaxOrder {
		return nil, api.ErrArg
	}
	number := At(seed, frame, use)
	// Each place has a number of its own, so that what stands at one tells nothing of the others.
	return mixed(n, func(i int) taker { return takes(digest.Chain(number, uint64(i))) }), api.OK
}

// mixed is the numbers below n, each of which may have changed places; takeAt is how the number of a place is taken.
func mixed(n int, takeAt func(i int) taker) []int {
	list := make([]int, n)
	for i := range list {
		list[i] = i
	}
	for i := n - 1; i >= 1; i-- {
		j := within(0, i, takeAt(i))
		list[i], list[j] = list[j], list[i]
	}
	return list
}
