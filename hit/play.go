package hit

import (
	"iter"

	"echelon/api"
)

// inPlay are the places of the movers that are in play, from the least on.
func inPlay(l []api.Mover) iter.Seq[int] {
	return func(yield func(place int) bool) {
		for place, m := range l {
			if plays(m) && !yield(place) {
				return
			}
		}
	}
}

// pairs are each two places of movers that are in play, the lesser one first: by the lesser ones, of one by the greater ones.
func pairs(l []api.Mover) iter.Seq2[int, int] {
	return func(yield func(a, b int) bool) {
		for a := range inPlay(l) {
			for b := range inPlay(l) {
				if a < b && !yield(a, b) {
					return
				}
			}
		}
	}
}

// first is the least place of a mover in play of which something is so; false, if there is none.
func first(l []api.Mover, so func(place int) bool) (int, bool) {
	for place := range inPlay(l) {
		if so(place) {
			return place, true
		}
	}
	return 0, false
}

func plays(m api.Mover) bool { return m.Out == 0 }
