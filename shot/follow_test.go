package shot_test

import (
	"math/rand"
	"strings"
	"testing"

	"echelon/api"
	"echelon/arena"
	"echelon/mover"
	"echelon/shot"
)

// meadow is a map without a wall.
func meadow(cols, rows int) api.Arena {
	return api.Arena{Cols: cols, Rows: rows, Signs: strings.Repeat(".", cols*rows)}
}

// inWall tells whether a point lies in a solid cell: the cells are 4096 wide, also those beside the map.
func inWall(a api.Arena, p api.Point) bool { return arena.Solid(a, p.X>>12, p.Y>>12) }

// TestP9_4FireMayBe: what is fired may be, from wherever.
func TestP9_4FireMayBe(t *testing.T) {
	r := rand.New(rand.NewSource(94))
	for range 50000 {
		m := mover.Start(at(someIn(r, -bound, bound), someIn(r, -bound, bound)), r.Intn(16))
		s, e := shot.Fire(m, someIn(r, 0, 5), someIn(r, 1, 3), someIn(r, 1, mostNo))
		if e != api.OK || !meantMayBe(s) || shot.Check(s) != api.OK {
			t.Errorf("Fire(%+v): %+v %d", m, s, e)
		}
	}
}

// flown is how many frames a shot flies on, with each of which what follows is asked.
func flown(t *testing.T, s api.Shot, a api.Arena) int {
	t.Helper()
	for n := 0; ; n++ {
		next, on, e := shot.Fly(s, a)
		if e != api.OK || n > 40 {
			t.Fatalf("Fly(%+v): %d, after %d frames", s, e, n)
		}
		if !on {
			if next != (api.Shot{}) {
				t.Errorf("Fly(%+v): false and %+v", s, next)
			}
			return n
		}
		if !meantMayBe(next) || shot.Check(next) != api.OK {
			t.Errorf("Fly(%+v): %+v, which may not be", s, next)
		}
		if !inWall(a, s.At) && inWall(a, next.At) {
			t.Errorf("Fly(%+v): %+v, into a wall", s, next)
		}
		if want := at(meantBounded(s.At.X+s.Speed.X), meantBounded(s.At.Y+s.Speed.Y)); next.At != want {
			t.Errorf("Fly(%+v): %+v, not at %v", s, next, want)
		}
		if next.No != s.No || next.Owner != s.Owner || next.Power != s.Power || next.Speed != s.Speed || next.Left != s.Left-1 {
			t.Errorf("Fly(%+v): %+v", s, next)
		}
		s = next
	}
}

// TestP9_4FliesItsLife: where no wall is, a shot that is fired flies just 39 frames.
func TestP9_4FliesItsLife(t *testing.T) {
	a := meadow(40, 40)
	for facing := range 16 {
		for power := 1; power <= 3; power++ {
			s, _ := shot.Fire(mover.Start(at(81920, 81920), facing), 0, power, 1)
			if n := flown(t, s, a); n != 39 {
				t.Errorf("facing %d, power %d: %d frames", facing, power, n)
			}
		}
	}
	for left := 1; left <= 40; left++ {
		s := api.Shot{No: 1, Power: 1, At: at(81920, 81920), Speed: at(1536, -1536), Left: left}
		if n := flown(t, s, a); n != left-1 {
			t.Errorf("Left %d: %d frames", left, n)
		}
	}
}

// TestP9_4TheBound: a map that goes on to the bounds has shots that stay there.
func TestP9_4TheBound(t *testing.T) {
	a := meadow(bound/4096+1, 1)
	s := api.Shot{No: 1, Power: 1, At: at(bound-2000, 7), Speed: at(1536, 0), Left: 40}
	if n := flown(t, s, a); n != 39 {
		t.Errorf("%d frames", n)
	}
	last := with(s, func(s *api.Shot) { s.At.X, s.Left = bound, 2 })
	if next, on, e := shot.Fly(last, a); next.At != at(bound, 7) || !on || e != api.OK {
		t.Errorf("%+v %v %d", next, on, e)
	}
}

// TestP9_4InWalls has shots that begin anywhere, on maps of any kind.
func TestP9_4InWalls(t *testing.T) {
	r := rand.New(rand.NewSource(95))
	maps := someMaps()
	longest := 0
	for range 30000 {
		a := maps[r.Intn(len(maps))]
		s := someShot(r)
		if n := flown(t, s, a); n > s.Left-1 {
			t.Errorf("%+v flew %d frames", s, n)
		} else if s.Speed != (api.Point{}) {
			longest = max(longest, n)
		}
	}
	if longest < 10 {
		t.Errorf("no shot flew longer than %d frames", longest)
	}
}

// TestP9_4FiredInMaps has movers at the starts of the standard maps: their shots end at walls.
func TestP9_4FiredInMaps(t *testing.T) {
	for n := range 4 {
		a, _ := arena.Standard(n)
		for _, p := range arena.Starts(a) {
			for facing := range 16 {
				for power := 1; power <= 3; power++ {
					s, e := shot.Fire(mover.Start(p, facing), 1, power, 3)
					if e != api.OK || inWall(a, s.At) {
						t.Errorf("map %d, facing %d: %+v %d", n, facing, s, e)
					}
					flown(t, s, a)
				}
			}
		}
	}
}
