package shot_test

import (
	"math"
	"math/rand"
	"testing"

	"echelon/api"
	"echelon/mover"
	"echelon/shot"
)

// meantUnits are the directions' units, as chapter 5 tells them.
func meantUnits() [16]api.Point {
	return [16]api.Point{{X: 256, Y: 0}, {X: 237, Y: 98}, {X: 181, Y: 181}, {X: 98, Y: 237}, {X: 0, Y: 256}, {X: -98, Y: 237}, {X: -181, Y: 181}, {X: -237, Y: 98}, {X: -256, Y: 0}, {X: -237, Y: -98}, {X: -181, Y: -181}, {X: -98, Y: -237}, {X: 0, Y: -256}, {X: 98, Y: -237}, {X: 181, Y: -181}, {X: 237, Y: -98}}
}

// meantBounded is a sum that stays within the bounds.
func meantBounded(n int) int {
	if n > 2147483647 {
		return 2147483647
	}
	if n < -2147483647 {
		return -2147483647
	}
	return n
}

// meantFire is P9.2, of a mover that may be: 1792 is seven times the unit, each speed whole units too.
func meantFire(m api.Mover, owner, power, no int) (api.Shot, api.Errno) {
	if owner < 0 || owner > 5 || power < 1 || power > 3 || no < 1 || no > mostNo {
		return api.Shot{}, 1
	}
	u := meantUnits()[m.Facing]
	return api.Shot{
		No: no, Owner: owner, Power: power, Left: 40,
		At:    at(meantBounded(m.At.X+7*u.X), meantBounded(m.At.Y+7*u.Y)),
		Speed: at((7-power)*u.X, (7-power)*u.Y),
	}, api.OK
}

func askFire(t *testing.T, m api.Mover, owner, power, no int) {
	t.Helper()
	want, wantErrno := meantFire(m, owner, power, no)
	got, e := shot.Fire(m, owner, power, no)
	if got != want || e != wantErrno {
		t.Errorf("Fire(%+v, %d, %d, %d): %+v %d, not %+v %d", m, owner, power, no, got, e, want, wantErrno)
	}
}

func TestP9_2Fire(t *testing.T) {
	for _, c := range []struct {
		at               api.Point
		facing           int
		owner, power, no int
		want             api.Shot
	}{
		{at(0, 0), 0, 1, 1, 7, api.Shot{No: 7, Owner: 1, Power: 1, At: at(1792, 0), Speed: at(1536, 0), Left: 40}},
		{at(0, 0), 2, 1, 3, 7, api.Shot{No: 7, Owner: 1, Power: 3, At: at(1267, 1267), Speed: at(724, 724), Left: 40}},
		{at(0, 0), 4, 0, 2, 1, api.Shot{No: 1, Owner: 0, Power: 2, At: at(0, 1792), Speed: at(0, 1280), Left: 40}},
		{at(100, -200), 8, 5, 3, mostNo, api.Shot{No: mostNo, Owner: 5, Power: 3, At: at(-1692, -200), Speed: at(-1024, 0), Left: 40}},
		{at(100, -200), 12, 3, 1, 2, api.Shot{No: 2, Owner: 3, Power: 1, At: at(100, -1992), Speed: at(0, -1536), Left: 40}},
		{at(6144, 6144), 1, 3, 1, 2, api.Shot{No: 2, Owner: 3, Power: 1, At: at(7803, 6830), Speed: at(1422, 588), Left: 40}},
		{at(6144, 6144), 11, 4, 2, 99, api.Shot{No: 99, Owner: 4, Power: 2, At: at(5458, 4485), Speed: at(-490, -1185), Left: 40}},
		{at(6144, 6144), 15, 2, 3, 99, api.Shot{No: 99, Owner: 2, Power: 3, At: at(7803, 5458), Speed: at(948, -392), Left: 40}},
	} {
		if got, e := shot.Fire(mover.Start(c.at, c.facing), c.owner, c.power, c.no); got != c.want || e != api.OK {
			t.Errorf("Fire at %v, facing %d, (%d, %d, %d): %+v %d, not %+v", c.at, c.facing, c.owner, c.power, c.no, got, e, c.want)
		}
	}
}

// TestP9_2FireAll asks each direction, power and owner, from places in the middle and at the bounds.
func TestP9_2FireAll(t *testing.T) {
	near := []int{-bound, -bound + 1, -bound + 685, -bound + 686, -bound + 1791, -bound + 1792, -bound + 1793, 0, 6144, bound - 1793, bound - 1792, bound - 1791, bound - 687, bound - 686, bound - 1, bound}
	for facing := range 16 {
		for _, x := range near {
			for _, y := range near {
				for power := 1; power <= 3; power++ {
					for owner := range 6 {
						askFire(t, mover.Start(at(x, y), facing), owner, power, 1+facing)
					}
				}
			}
		}
	}
}

func TestP9_2FireBounded(t *testing.T) {
	for _, c := range []struct {
		at     api.Point
		facing int
		want   api.Point
	}{
		{at(bound-1792, 5), 0, at(bound, 5)}, {at(bound-1791, 5), 0, at(bound, 5)}, {at(bound-1793, 5), 0, at(bound-1, 5)}, {at(bound, 5), 0, at(bound, 5)},
		{at(-bound+1792, 5), 8, at(-bound, 5)}, {at(-bound+1, 5), 8, at(-bound, 5)}, {at(-bound+1793, 5), 8, at(-bound+1, 5)}, {at(-bound, 5), 8, at(-bound, 5)},
		{at(5, bound), 4, at(5, bound)}, {at(5, -bound), 12, at(5, -bound)}, {at(bound, -bound), 14, at(bound, -bound)}, {at(bound, bound), 10, at(bound-1267, bound-1267)},
	} {
		if got, e := shot.Fire(mover.Start(c.at, c.facing), 0, 1, 1); got.At != c.want || e != api.OK {
			t.Errorf("Fire at %v, facing %d: %v %d, not %v", c.at, c.facing, got.At, e, c.want)
		}
	}
}

// TestP9_2FireNotAsked has movers that may be, and could not fire.
func TestP9_2FireNotAsked(t *testing.T) {
	want := api.Shot{No: 4, Owner: 3, Power: 3, At: at(10, 20-1792), Speed: at(0, -1024), Left: 40}
	for _, m := range []api.Mover{
		{At: at(10, 20), Facing: 12, Out: 30}, {At: at(10, 20), Facing: 12, Out: 1, Said: 9},
		{At: at(10, 20), Facing: 12, Health: 100, Energy: 100, Cool: 12}, {At: at(10, 20), Facing: 12, Health: 1},
		{At: at(10, 20), Facing: 12, Health: 1, Energy: 29, Cool: 1, Shield: true},
		{At: at(10, 20), Facing: 12, Health: 1, Speed: at(1024, -1024), Push: at(-256, 256)},
	} {
		if got, e := shot.Fire(m, 3, 3, 4); got != want || e != api.OK {
			t.Errorf("Fire(%+v): %+v %d", m, got, e)
		}
		if got, e := shot.Fire(m, 3, 4, 4); got != (api.Shot{}) || e != 1 {
			t.Errorf("Fire(%+v) with power 4: %+v %d", m, got, e)
		}
	}
}

// barred are numbers that no owner, no power or no number of a shot may be.
func barred() (owners, powers, nos []int) {
	far := []int{math.MinInt, math.MinInt + 1, -1 << 40, -1 << 32, -1, math.MaxInt - 1, math.MaxInt}
	return append([]int{6, 7, 256, 1 << 32}, far...), append([]int{0, 4, 257, 1<<32 + 1}, far...), append([]int{0, mostNo + 1, 1<<41 + 1}, far...)
}

func TestP9_2FireArguments(t *testing.T) {
	m := mover.Start(at(1, 2), 3)
	owners, powers, nos := barred()
	wrong := func(owner, power, no int) {
		t.Helper()
		if got, e := shot.Fire(m, owner, power, no); got != (api.Shot{}) || e != 1 {
			t.Errorf("Fire(.., %d, %d, %d): %+v %d", owner, power, no, got, e)
		}
	}
	for _, owner := range owners {
		wrong(owner, 1, 1)
		wrong(owner, powers[0], nos[0])
	}
	for _, power := range powers {
		wrong(0, power, 1)
		wrong(5, power, nos[1])
	}
	for _, no := range nos {
		wrong(5, 3, no)
		wrong(0, 1, no)
	}
	for _, owner := range append(owners, 0, 1, 4, 5) {
		for _, power := range append(powers, 1, 2, 3) {
			for _, no := range append(nos, 1, 2, mostNo-1, mostNo) {
				askFire(t, m, owner, power, no)
			}
		}
	}
}

func TestP9_2FireMover(t *testing.T) {
	good := mover.Start(at(0, 0), 0)
	spoiltMovers := []api.Mover{
		{}, {Health: -1}, {Health: 101}, {Health: 100, Out: 1}, {Out: 31}, {Out: -1}, {Out: 3, Energy: 1}, {Out: 3, Cool: 1}, {Out: 3, Shield: true}, {Health: 100, Energy: 101},
		{Health: 100, Cool: 13}, {Health: 100, Said: 256}, {Health: 100, Facing: 16}, {Health: 100, Facing: -1}, {Health: 100, Facing: math.MinInt}, {Health: 100, Facing: math.MaxInt},
		{Health: 100, At: at(bound+1, 0)}, {Health: 100, At: at(0, -bound-1)}, {Health: 100, At: at(math.MinInt, math.MaxInt)}, {Health: 100, Speed: at(1025, 0)}, {Health: 100, Push: at(0, -257)},
	}
	owners, powers, nos := barred()
	for _, m := range spoiltMovers {
		ask := func(owner, power, no int) {
			t.Helper()
			if got, e := shot.Fire(m, owner, power, no); got != (api.Shot{}) || e != 80 {
				t.Errorf("Fire(%+v, %d, %d, %d): %+v %d", m, owner, power, no, got, e)
			}
		}
		ask(0, 1, 1)
		ask(5, 3, mostNo)
		for i := range 7 {
			ask(owners[i], 1, 1)
			ask(1, powers[i], 1)
			ask(1, 1, nos[i])
			ask(owners[i], powers[i], nos[i])
		}
	}
	if _, e := shot.Fire(good, 0, 1, 1); e != api.OK {
		t.Errorf("%d", e)
	}
}

func TestP9_2FireSome(t *testing.T) {
	r := rand.New(rand.NewSource(92))
	for range 100000 {
		m := mover.Start(at(someIn(r, -bound, bound), someIn(r, -bound, bound)), r.Intn(16))
		if r.Intn(3) == 0 {
			m = api.Mover{At: m.At, Facing: m.Facing, Out: someIn(r, 1, 30)}
		}
		askFire(t, m, someIn(r, -1, 6), someIn(r, 0, 4), someIn(r, 0, mostNo+1))
	}
}
