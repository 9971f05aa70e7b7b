package hit_test

import (
	"math"
	"math/rand"
	"slices"
	"testing"

	"echelon/api"
	"echelon/hit"
	"echelon/mover"
	"echelon/shot"
)

// from is a shot of an owner at a point.
func from(owner, no, x, y int) api.Shot {
	return api.Shot{No: no, Owner: owner, Power: 2, At: at(x, y), Speed: at(-1280, 77), Left: 9}
}

// volley are n shots of an owner at a point, whose numbers rise.
func volley(n, owner, x, y int) []api.Shot {
	var l []api.Shot
	for i := range n {
		l = append(l, from(owner, 3*i+1, x, y))
	}
	return l
}

// spoiltShots are shots that may not be together.
func spoiltShots() [][]api.Shot {
	all := [][]api.Shot{volley(49, 0, 0, 0), volley(50, 0, 9999, 0), volley(300, 5, 0, 0), make([]api.Shot, 1), make([]api.Shot, 49)}
	spoil := func(change func(s *api.Shot)) {
		for n := 1; n <= 4; n++ {
			for place := range n {
				l := volley(n, 0, 100, -100)
				change(&l[place])
				all = append(all, l)
			}
		}
		l := volley(48, 0, 100, -100)
		change(&l[47])
		all = append(all, l)
	}
	for _, n := range []int{math.MinInt, -1, 0, mostNo + 1, math.MaxInt} {
		spoil(func(s *api.Shot) { s.No = n })
	}
	for _, n := range []int{math.MinInt, -1, 6, 7, math.MaxInt} {
		spoil(func(s *api.Shot) { s.Owner = n })
	}
	for _, n := range []int{math.MinInt, -1, 0, 4, math.MaxInt} {
		spoil(func(s *api.Shot) { s.Power = n })
	}
	for _, n := range []int{math.MinInt, -1, 0, 41, math.MaxInt} {
		spoil(func(s *api.Shot) { s.Left = n })
	}
	for _, n := range []int{math.MinInt, -bound - 1, bound + 1, math.MaxInt} {
		spoil(func(s *api.Shot) { s.At.X = n })
		spoil(func(s *api.Shot) { s.At.Y = n })
	}
	for _, n := range []int{math.MinInt, -1537, 1537, math.MaxInt} {
		spoil(func(s *api.Shot) { s.Speed.X = n })
		spoil(func(s *api.Shot) { s.Speed.Y = n })
	}
	return append(all, fallingShots()...)
}

// fallingShots are shots each of which may be, with numbers that don't rise.
func fallingShots() [][]api.Shot {
	var all [][]api.Shot
	for _, nos := range [][]int{
		{1, 1}, {2, 1}, {mostNo, mostNo}, {mostNo, 1}, {mostNo, mostNo - 1}, {1, 2, 2}, {1, 1, 2}, {1, 3, 2}, {2, 1, 3}, {3, 2, 1}, {1, 2, 1}, {5, 9, 7, 8}, {5, 6, 7, 5}, {5, 6, 7, 7},
	} {
		var l []api.Shot
		for _, no := range nos {
			l = append(l, from(0, no, 100, -100))
		}
		all = append(all, l)
	}
	return append(all, with(volley(48, 0, 0, 0), 47, from(0, 139, 0, 0)))
}

// meantShots is P11.3, word by word.
func meantShots(l []api.Mover, shots []api.Shot) ([]api.Meet, api.Errno) {
	if !meantTogether(l) || len(shots) > 48 {
		return nil, 110
	}
	for i, s := range shots {
		if shot.Check(s) != api.OK || i > 0 && s.No <= shots[i-1].No {
			return nil, 110
		}
	}
	var all []api.Meet
	for i, s := range shots {
		least := -1
		for place := len(l) - 1; place >= 0; place-- {
			if l[place].Out == 0 && place != s.Owner && meantHas(l[place].At, s.At) {
				least = place
			}
		}
		if least >= 0 {
			all = append(all, api.Meet{A: i, B: least})
		}
	}
	return all, api.OK
}

func askShots(t *testing.T, l []api.Mover, shots []api.Shot) {
	t.Helper()
	want, wantErrno := meantShots(l, shots)
	if got, e := hit.Shots(l, shots); !slices.Equal(got, want) || e != wantErrno {
		t.Errorf("Shots(%+v, %+v): %v %d, not %v %d", l, shots, got, e, want, wantErrno)
	}
}

// wantShots asks for an answer without an error.
func wantShots(t *testing.T, name string, l []api.Mover, shots []api.Shot, ab ...int) {
	t.Helper()
	got, e := hit.Shots(l, shots)
	wantMeets(t, name, got, e, ab...)
}

func TestP11_3Examples(t *testing.T) {
	l := []api.Mover{mover.Start(at(0, 0), 0), mover.Start(at(2560, 0), 0)}
	wantShots(t, "of owner 0", l, []api.Shot{from(0, 1, 1280, 0)}, 0, 1)
	wantShots(t, "of owner 1", l, []api.Shot{from(1, 1, 1280, 0)}, 0, 0)
	wantShots(t, "of owner 2", l, []api.Shot{from(2, 1, 1280, 0)}, 0, 0)
}

func TestP11_3HowMany(t *testing.T) {
	for n := range 7 {
		for k := range 49 {
			shots := volley(k, 0, 100, -100)
			var want []int
			for i := range k {
				if n >= 2 {
					want = append(want, i, 1)
				}
			}
			wantShots(t, "of owner 0", heap(n), shots, want...)
		}
		got, e := hit.Shots(heap(n), volley(49, 0, 0, 0))
		wantNone(t, "49 shots", got, e)
	}
	wantShots(t, "nothing", nil, nil)
	wantShots(t, "nothing", []api.Mover{}, []api.Shot{})
	wantShots(t, "no mover", nil, volley(48, 3, 0, 0))
	wantShots(t, "no shot", heap(6), nil)
}

func TestP11_3Spoilt(t *testing.T) {
	for _, l := range spoiltLists() {
		for _, shots := range [][]api.Shot{nil, volley(1, 0, 0, 0), volley(48, 3, 100, -100), volley(49, 0, 0, 0)} {
			got, e := hit.Shots(l, shots)
			wantNone(t, "movers that may not be", got, e)
		}
	}
	for _, shots := range spoiltShots() {
		for n := range 7 {
			got, e := hit.Shots(heap(n), shots)
			wantNone(t, "shots that may not be", got, e)
		}
	}
}

// TestP11_3Numbers: those next to each other may be, from the least to the greatest, and with gaps.
func TestP11_3Numbers(t *testing.T) {
	for _, nos := range [][]int{{1, 2, 3}, {1, 2, mostNo}, {mostNo - 2, mostNo - 1, mostNo}, {1, 1 << 39, mostNo}, {7, 8, 1000}} {
		var shots []api.Shot
		for i, no := range nos {
			shots = append(shots, from(0, no, 9000*i, 0))
		}
		wantShots(t, "rising", []api.Mover{out(0, 0), in(18000, 0), in(0, 0)}, shots, 0, 2, 2, 1)
	}
}

// TestP11_3Edges has a shot at each corner and at each side of a body, one part within it, and one part beyond it.
func TestP11_3Edges(t *testing.T) {
	offsets := []int{-70000, -1281, -1280, -1279, -1, 0, 1, 1279, 1280, 1281, 70000}
	for _, middle := range []api.Point{at(0, 0), at(6144, -999), at(bound-80000, 80000-bound)} {
		for _, x := range offsets {
			for _, y := range offsets {
				var want []int
				if -1280 <= x && x <= 1280 && -1280 <= y && y <= 1280 {
					want = []int{0, 0}
				}
				wantShots(t, "beside a body", []api.Mover{in(middle.X, middle.Y)}, []api.Shot{from(1, 5, middle.X+x, middle.Y+y)}, want...)
			}
		}
	}
}

func TestP11_3Bounds(t *testing.T) {
	for _, c := range []struct {
		m  api.Mover
		s  api.Shot
		is bool
	}{
		{in(bound, 0), from(1, 1, bound, 0), true}, {in(bound, 0), from(1, 1, bound-1280, 0), true}, {in(bound, 0), from(1, 1, bound-1281, 0), false}, {in(bound-1280, 0), from(1, 1, bound, 0), true}, {in(bound-1281, 0), from(1, 1, bound, 0), false},
		{in(0, -bound), from(1, 1, 0, -bound), true}, {in(0, -bound), from(1, 1, 0, 1280-bound), true}, {in(0, -bound), from(1, 1, 0, 1281-bound), false}, {in(0, 1280-bound), from(1, 1, 0, -bound), true}, {in(0, 1281-bound), from(1, 1, 0, -bound), false},
		{in(bound, -bound), from(1, 1, bound, -bound), true}, {in(bound, -bound), from(1, 1, -bound, -bound), false}, {in(bound, -bound), from(1, 1, bound, bound), false}, {in(bound, bound), from(1, 1, -bound, -bound), false},
	} {
		var want []int
		if c.is {
			want = []int{0, 0}
		}
		wantShots(t, "at the bounds", []api.Mover{c.m}, []api.Shot{c.s}, want...)
	}
}

// TestP11_3Owner: nobody is hit by its own shot, and the least of the others is.
func TestP11_3Owner(t *testing.T) {
	for n := range 7 {
		for owner := range 6 {
			var want []int
			switch {
			case owner == 0 && n >= 2:
				want = []int{0, 1}
			case owner != 0 && n >= 1:
				want = []int{0, 0}
			}
			wantShots(t, "on a heap", heap(n), volley(1, owner, 100, -100), want...)
		}
	}
	row := []api.Mover{in(0, 0), in(9000, 0), in(18000, 0)}
	for place, m := range row {
		for owner := range 6 {
			want := []int{0, place}
			if owner == place {
				want = nil
			}
			wantShots(t, "the only one there", row, []api.Shot{from(owner, 1, m.At.X, m.At.Y)}, want...)
		}
	}
}

func TestP11_3Out(t *testing.T) {
	i, o := in(0, 0), out(0, 0)
	for _, c := range []struct {
		name  string
		l     []api.Mover
		owner int
		want  []int
	}{
		{"the only one", []api.Mover{o}, 1, nil}, {"the least one", []api.Mover{o, i, i}, 5, []int{0, 1}}, {"one between", []api.Mover{i, o, i}, 0, []int{0, 2}},
		{"the last one", []api.Mover{i, i, o}, 0, []int{0, 1}}, {"all but the owner", []api.Mover{o, i, o}, 1, nil}, {"the owner", []api.Mover{o, i, i}, 0, []int{0, 1}},
		{"the owner, the last one", []api.Mover{i, i, o}, 2, []int{0, 0}}, {"all", []api.Mover{o, o, o, o, o, o}, 3, nil}, {"all but the last one", []api.Mover{o, o, o, o, o, i}, 3, []int{0, 5}},
	} {
		wantShots(t, c.name, c.l, volley(1, c.owner, 0, 0), c.want...)
	}
}

// TestP11_3Several: shots that meet one mover are told each, and those that meet nobody leave no gap in the others' places.
func TestP11_3Several(t *testing.T) {
	l := []api.Mover{in(0, 0), in(9000, 0), in(1000, 0)}
	wantShots(t, "two that meet one", l, []api.Shot{from(2, 4, 0, 0), from(1, 5, 30, -30)}, 0, 0, 1, 0)
	wantShots(t, "one that meets nobody", l, []api.Shot{from(0, 4, 9000, 9), from(0, 5, 5000, 0), from(1, 6, 1281, 0), from(0, 7, 0, 0), from(1, 9, 9000, 0)}, 0, 1, 2, 2, 3, 2)
}

// TestP11_3AtAlone: where a shot comes from and what is left of it do not count, nor does its power.
func TestP11_3AtAlone(t *testing.T) {
	for _, speed := range []api.Point{at(0, 0), at(1536, -1536), at(-1536, 1536)} {
		for _, left := range []int{1, 2, 40} {
			for power := 1; power <= 3; power++ {
				s := api.Shot{No: 1, Owner: 1, Power: power, At: at(1280, 0), Speed: speed, Left: left}
				wantShots(t, "at a side", []api.Mover{in(0, 0)}, []api.Shot{s}, 0, 0)
				s.At.X = 1281
				wantShots(t, "beside it", []api.Mover{in(0, 0)}, []api.Shot{s})
			}
		}
	}
}

// someShots are some that may be together, near to a point.
func someShots(r *rand.Rand, near api.Point, most int) []api.Shot {
	var l []api.Shot
	no := 0
	for range r.Intn(most + 1) {
		no += someIn(r, 1, 1<<r.Intn(34))
		s := from(r.Intn(6), no, max(-bound, min(bound, near.X+someAside(r))), max(-bound, min(bound, near.Y+someAside(r))))
		l = append(l, s)
	}
	return l
}

func TestP11_3Some(t *testing.T) {
	r := rand.New(rand.NewSource(113))
	for range 50000 {
		near := someNear(r)
		askShots(t, someMovers(r, near), someShots(r, near, 12))
	}
	for range 2000 {
		near := someNear(r)
		askShots(t, someMovers(r, near), someShots(r, near, 50))
	}
}

func TestP11_3StayAsTheyWere(t *testing.T) {
	for n := range 8 {
		for _, k := range []int{0, 1, 2, 5, 48, 49} {
			movers, shots := append(heap(n), in(1, 2), in(3, 4)), append(volley(k, 0, 100, -100), from(0, 999, 100, -100), from(0, 5, 0, 0))
			moversBefore, shotsBefore := slices.Clone(movers), slices.Clone(shots)
			got, e := hit.Shots(movers[:n], shots[:k])
			if !slices.Equal(movers, moversBefore) || !slices.Equal(shots, shotsBefore) {
				t.Errorf("%d movers and %d shots have become %+v %+v", n, k, movers, shots)
			}
			clear(movers)
			clear(shots)
			kept := slices.Clone(got)
			again, againErrno := hit.Shots(heap(n), volley(k, 0, 100, -100))
			clear(again[:cap(again)])
			if !slices.Equal(got, kept) || e != againErrno {
				t.Errorf("%d movers and %d shots: %v has become %v", n, k, kept, got)
			}
			askShots(t, heap(n), volley(k, 0, 100, -100))
		}
	}
}
