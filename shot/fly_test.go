package shot_test

import (
	"math"
	"math/rand"
	"strings"
	"testing"

	"echelon/api"
	"echelon/arena"
	"echelon/shot"
)

// room is standard map 3: free are X from 4096 to 28671 and Y from 4096 to 20479.
func room() api.Arena {
	a, _ := arena.Standard(3)
	return a
}

// someMaps are maps of any kind, also ones that may not be.
func someMaps() []api.Arena {
	var l []api.Arena
	for n := range 4 {
		a, _ := arena.Standard(n)
		l = append(l, a)
	}
	return append(l, api.Arena{}, api.Arena{Cols: 10, Rows: 10}, api.Arena{Cols: 10, Rows: 10, Signs: strings.Repeat(".", 57)}, api.Arena{Cols: 10, Rows: 10, Signs: strings.Repeat(".#.x", 25)},
		api.Arena{Cols: -1, Rows: -1, Signs: "...."}, api.Arena{Cols: 1, Rows: math.MaxInt, Signs: "........"}, api.Arena{Cols: math.MaxInt, Rows: 1, Signs: "........"}, api.Arena{Cols: math.MaxInt, Rows: math.MaxInt, Signs: "...."},
		api.Arena{Cols: math.MinInt, Rows: math.MinInt}, api.Arena{Cols: 1, Rows: 1, Signs: "."}, api.Arena{Cols: 3, Rows: 3, Signs: "\xff\xff\xff\xff\xff\xff\xff\xff\xff"}, api.Arena{Cols: 10, Rows: 10, Signs: strings.Repeat("#", 100)})
}

// meantFly is P9.3.
func meantFly(s api.Shot, a api.Arena) (api.Shot, bool, api.Errno) {
	if !meantMayBe(s) {
		return api.Shot{}, false, 90
	}
	p, wall := arena.Ray(a, s.At, s.Speed)
	if wall || s.Left == 1 {
		return api.Shot{}, false, api.OK
	}
	return api.Shot{No: s.No, Owner: s.Owner, Power: s.Power, At: p, Speed: s.Speed, Left: s.Left - 1}, true, api.OK
}

func askFly(t *testing.T, s api.Shot, a api.Arena) {
	t.Helper()
	want, wantOn, wantErrno := meantFly(s, a)
	if got, on, e := shot.Fly(s, a); got != want || on != wantOn || e != wantErrno {
		t.Errorf("Fly(%+v, %d columns, %d rows, %.100q): %+v %v %d, not %+v %v %d", s, a.Cols, a.Rows, a.Signs, got, on, e, want, wantOn, wantErrno)
	}
}

func TestP9_3Fly(t *testing.T) {
	for _, c := range []struct {
		name      string
		at, speed api.Point
		left      int
		on        bool
		want      api.Point
	}{
		{"along X", at(10000, 6144), at(1536, 0), 40, true, at(11536, 6144)},
		{"along X, back", at(10000, 6144), at(-1536, 0), 40, true, at(8464, 6144)},
		{"along Y", at(10000, 6144), at(0, 1024), 40, true, at(10000, 7168)},
		{"along Y, back", at(10000, 12000), at(0, -1024), 40, true, at(10000, 10976)},
		{"slanting", at(10000, 12000), at(724, -724), 40, true, at(10724, 11276)},
		{"slanting, not evenly", at(10000, 12000), at(-1422, 588), 40, true, at(8578, 12588)},
		{"by one", at(10000, 12000), at(1, -1), 40, true, at(10001, 11999)},
		{"at rest", at(10000, 12000), at(0, 0), 40, true, at(10000, 12000)},
		{"the last frame but one", at(10000, 12000), at(724, -724), 2, true, at(10724, 11276)},
		{"the last frame", at(10000, 12000), at(724, -724), 1, false, at(0, 0)},
		{"the last frame, at rest", at(10000, 12000), at(0, 0), 1, false, at(0, 0)},
		{"the last frame, at a wall", at(28000, 12000), at(1536, 0), 1, false, at(0, 0)},
		{"the last frame but one, at a wall", at(28000, 12000), at(1536, 0), 2, false, at(0, 0)},
		{"a wall at the right", at(28000, 12000), at(1536, 0), 40, false, at(0, 0)},
		{"up to it", at(27135, 12000), at(1536, 0), 40, true, at(28671, 12000)},
		{"one too many", at(27136, 12000), at(1536, 0), 40, false, at(0, 0)},
		{"a wall at the left", at(4096, 12000), at(-1, 0), 40, false, at(0, 0)},
		{"up to it", at(5632, 12000), at(-1536, 0), 40, true, at(4096, 12000)},
		{"one too many", at(5631, 12000), at(-1536, 0), 40, false, at(0, 0)},
		{"a wall above", at(12000, 4200), at(0, -200), 40, false, at(0, 0)},
		{"up to it", at(12000, 4296), at(0, -200), 40, true, at(12000, 4096)},
		{"a wall below", at(12000, 20479), at(0, 1), 40, false, at(0, 0)},
		{"up to it", at(12000, 20478), at(0, 1), 40, true, at(12000, 20479)},
		{"slanting into a wall", at(28000, 12000), at(1000, 1000), 40, false, at(0, 0)},
		{"slanting along a wall", at(28671, 12000), at(0, 1000), 40, true, at(28671, 13000)},
		{"in a wall, on in it", at(2000, 2000), at(100, 0), 40, false, at(0, 0)},
		{"in a wall, at rest", at(2000, 2000), at(0, 0), 40, true, at(2000, 2000)},
		{"in a wall, at rest, the last frame", at(2000, 2000), at(0, 0), 1, false, at(0, 0)},
		{"out of a wall", at(4095, 12000), at(64, 0), 40, true, at(4159, 12000)},
		{"out of a wall, too slowly", at(4000, 12000), at(1536, 0), 40, false, at(0, 0)},
		{"out of the map", at(-9000, 12000), at(5, 0), 40, false, at(0, 0)},
		{"at the bounds", at(bound, -bound), at(5, 5), 40, false, at(0, 0)},
		{"at the bounds, at rest", at(bound, -bound), at(0, 0), 40, true, at(bound, -bound)},
	} {
		s := api.Shot{No: 5, Owner: 4, Power: 3, At: c.at, Speed: c.speed, Left: c.left}
		want := api.Shot{}
		if c.on {
			want = api.Shot{No: 5, Owner: 4, Power: 3, At: c.want, Speed: c.speed, Left: c.left - 1}
		}
		if got, on, e := shot.Fly(s, room()); got != want || on != c.on || e != api.OK {
			t.Errorf("%s: Fly(%+v): %+v %v %d, not %+v %v", c.name, s, got, on, e, want, c.on)
		}
	}
}

func TestP9_3FlyLeft(t *testing.T) {
	for left := -3; left <= 45; left++ {
		s := with(plainShot(), func(s *api.Shot) { s.Left = left })
		want, wantOn, wantErrno := with(s, func(s *api.Shot) { s.At, s.Left = at(14636, 10040), left-1 }), true, api.OK
		if left == 1 {
			want, wantOn = api.Shot{}, false
		}
		if left < 1 || left > 40 {
			want, wantOn, wantErrno = api.Shot{}, false, 90
		}
		if got, on, e := shot.Fly(s, room()); got != want || on != wantOn || e != wantErrno {
			t.Errorf("Fly with Left %d: %+v %v %d, not %+v %v %d", left, got, on, e, want, wantOn, wantErrno)
		}
	}
}

func TestP9_3FlyWrong(t *testing.T) {
	for _, s := range spoilt() {
		for _, a := range someMaps() {
			if got, on, e := shot.Fly(s, a); got != (api.Shot{}) || on || e != 90 {
				t.Errorf("Fly(%+v): %+v %v %d", s, got, on, e)
			}
		}
	}
}

// TestP9_3FlyEdges has each number at its edges, on each map.
func TestP9_3FlyEdges(t *testing.T) {
	for _, f := range fields() {
		for _, n := range f.around() {
			for _, a := range someMaps() {
				for _, base := range []api.Shot{plainShot(), {No: 1, Power: 1, Left: 1}, {No: mostNo, Owner: 5, Power: 3, At: at(bound, -bound), Speed: at(-1536, 1536), Left: 40}, {No: 1, Power: 1, At: at(9, 9), Left: 2}} {
					askFly(t, with(base, func(s *api.Shot) { f.set(s, n) }), a)
				}
			}
		}
	}
}

// TestP9_3FlyNoMap: on the empty map all is solid, so that only what rests goes on.
func TestP9_3FlyNoMap(t *testing.T) {
	for _, a := range []api.Arena{{}, {Cols: 10, Rows: 10}, {Cols: -5, Rows: -5, Signs: strings.Repeat(".", 25)}} {
		if got, on, e := shot.Fly(plainShot(), a); got != (api.Shot{}) || on || e != api.OK {
			t.Errorf("%+v %v %d", got, on, e)
		}
		s := with(plainShot(), func(s *api.Shot) { s.Speed = at(0, 0) })
		want := with(s, func(s *api.Shot) { s.Left = 19 })
		if got, on, e := shot.Fly(s, a); got != want || !on || e != api.OK {
			t.Errorf("%+v %v %d", got, on, e)
		}
	}
}

func TestP9_3FlySome(t *testing.T) {
	r := rand.New(rand.NewSource(93))
	maps := someMaps()
	for range 200000 {
		askFly(t, someShot(r), maps[r.Intn(len(maps))])
	}
	for range 200000 {
		askFly(t, someShot(r), maps[r.Intn(4)])
	}
}
