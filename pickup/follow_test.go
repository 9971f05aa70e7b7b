package pickup_test

import (
	"math/rand"
	"slices"
	"testing"

	"echelon/api"
	"echelon/mover"
	"echelon/pickup"
)

// TestP10_4Together: what lies, with what comes behind it, may lie together, if its number is above all of theirs.
func TestP10_4Together(t *testing.T) {
	r := rand.New(rand.NewSource(104))
	came := 0
	for range 100000 {
		spots := someIn(r, 0, 16)
		l := someLying(r, spots)
		above := 0
		if len(l) > 0 {
			above = l[len(l)-1].No
		}
		if above == mostNo {
			continue
		}
		got, is, e := pickup.Spawn(r.Uint64(), int64(someIn(r, 0, mostFrame/16))*16, l, spots, someIn(r, above+1, mostNo))
		if e != api.OK || is != (len(l) < spots && len(l) < 8) {
			t.Fatalf("%v at %d spots: %v %v %d", l, spots, got, is, e)
		}
		if !is {
			continue
		}
		came++
		if all := append(slices.Clone(l), got); pickup.Check(all, spots) != api.OK || meantCheck(all, spots) != api.OK {
			t.Errorf("%v at %d spots may not lie together", all, spots)
		}
	}
	if came < 50000 {
		t.Errorf("only %d came", came)
	}
}

// TestP10_4NotAbove: with a number that is not above all of theirs they may not.
func TestP10_4NotAbove(t *testing.T) {
	for no := 1; no <= 40; no++ {
		got, is, e := pickup.Spawn(7, 16, row(4), 16, no)
		want := api.Errno(100)
		if no > 31 {
			want = api.OK
		}
		if errno := pickup.Check(append(row(4), got), 16); !is || e != api.OK || errno != want {
			t.Errorf("no %d: %v %v %d, together %d", no, got, is, e, errno)
		}
	}
}

// TestP10_4Filling has pickups come one behind the other, until there is room for none.
func TestP10_4Filling(t *testing.T) {
	for spots := range 17 {
		for seed := range uint64(50) {
			var l []api.Pickup
			for frame := range int64(200) {
				got, is, e := pickup.Spawn(seed, frame, l, spots, 1+int(frame))
				if e != api.OK || is != (frame%16 == 0 && len(l) < min(spots, 8)) {
					t.Fatalf("seed %d, frame %d, %v at %d spots: %v %v %d", seed, frame, l, spots, got, is, e)
				}
				if is {
					l = append(l, got)
				}
				if errno := pickup.Check(l, spots); errno != api.OK {
					t.Fatalf("seed %d, frame %d: %v at %d spots: %d", seed, frame, l, spots, errno)
				}
			}
			if len(l) != min(spots, 8) {
				t.Errorf("seed %d: %v at %d spots", seed, l, spots)
			}
		}
	}
}

// TestP10_4NothingComes: in frames that are no multiples of 16.
func TestP10_4NothingComes(t *testing.T) {
	for _, first := range []int64{0, 16, 4096, 1 << 32, mostFrame - 32, mostFrame - 16} {
		for rest := range int64(16) {
			for n := range 9 {
				got, is, e := pickup.Spawn(7, first+rest, row(n), 16, 99)
				if e != api.OK || is != (rest == 0 && n < 8) || !is && got != (api.Pickup{}) {
					t.Errorf("frame %d, %d pickups: %v %v %d", first+rest, n, got, is, e)
				}
			}
		}
	}
}

// TestP10_4NoneWorse: a pickup makes no mover worse, and leaves it one that may be.
func TestP10_4NoneWorse(t *testing.T) {
	r := rand.New(rand.NewSource(105))
	for range 100000 {
		m := someMover(r)
		for kind := 1; kind <= 3; kind++ {
			got, points, e := pickup.Take(m, kind)
			if e != api.OK || points < 0 || got.Health < m.Health || got.Energy < m.Energy || mover.Check(got) != api.OK {
				t.Fatalf("Take(%+v, %d): %+v %d %d", m, kind, got, points, e)
			}
			got.Health, got.Energy = m.Health, m.Energy
			if got != m {
				t.Fatalf("Take(%+v, %d): has changed more: %+v", m, kind, got)
			}
		}
	}
}
