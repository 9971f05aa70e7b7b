package pickup

import (
	"echelon/api"
	"echelon/rng"
)

// The uses for which a frame's numbers are taken.
const (
	useSpot = 1 + iota
	useKind
)

// Spawn is the pickup that comes in a frame, if one does (P10.2).
func Spawn(seed uint64, frame int64, l []api.Pickup, spots, no int) (api.Pickup, bool, api.Errno) {
	if errno := Check(l, spots); errno != api.OK {
		return api.Pickup{}, false, errno
	}
	if frame < 0 || frame > api.MaxFrame || !isNo(no) {
		return api.Pickup{}, false, api.ErrArg
	}
	if frame%api.SpawnEvery != 0 || len(l) == api.MaxPickups {
		return api.Pickup{}, false, api.OK
	}
	at := freeSpots(freeAmong(l), spots)
	if len(at) == 0 {
		return api.Pickup{}, false, api.OK
	}
	// Both choices have something to choose from here, so that neither has an error.
	place, _ := rng.Below(seed, frame, useSpot, len(at))
	kind, _ := rng.Weighted(seed, frame, useKind, weights())
	return api.Pickup{No: no, Spot: at[place], Kind: api.Heal + kind}, true, api.OK
}

// weights says how often the kinds come, by their numbers.
func weights() []int { return []int{5, 3, 2} }

// freeSpots are which of so many spots are free, by rising numbers.
func freeSpots(free func(spot int) bool, spots int) []int {
	var at []int
	for spot := range spots {
		if free(spot) {
			at = append(at, spot)
		}
	}
	return at
}
