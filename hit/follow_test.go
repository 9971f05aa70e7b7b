package hit_test

import (
	"math/rand"
	"slices"
	"testing"

	"echelon/api"
	"echelon/hit"
	"echelon/mover"
)

// atMostOnce tells whether each A is there at most once, by rising numbers.
func atMostOnce(l []api.Meet) bool {
	return slices.IsSortedFunc(l, func(x, y api.Meet) int {
		if x.A >= y.A {
			return 1
		}
		return -1
	})
}

// TestP11_5Out: nobody meets who is out.
func TestP11_5Out(t *testing.T) {
	r := rand.New(rand.NewSource(115))
	met := 0
	for range 30000 {
		near := someNear(r)
		l, shots := someMovers(r, near), someShots(r, near, 12)
		bodies, e1 := hit.Bodies(l)
		hits, e2 := hit.Shots(l, shots)
		taken, e3 := hit.Pickups(l, lie(0, 1, 2), []api.Point{near, at(near.X+2048, near.Y), at(near.X, near.Y-2048)})
		if e1 != api.OK || e2 != api.OK || e3 != api.OK {
			t.Fatalf("%d %d %d", e1, e2, e3)
		}
		for _, m := range bodies {
			if l[m.A].Out > 0 || l[m.B].Out > 0 {
				t.Fatalf("%+v: %v", l, bodies)
			}
		}
		for _, m := range append(slices.Clone(hits), taken...) {
			if l[m.B].Out > 0 {
				t.Fatalf("%+v: %v %v", l, hits, taken)
			}
		}
		met += len(bodies) + len(hits) + len(taken)
	}
	if met < 50000 {
		t.Errorf("only %d have met", met)
	}
}

// TestP11_5OneAtMost: a shot meets one at most, and never its owner; a pickup is taken by one at most.
func TestP11_5OneAtMost(t *testing.T) {
	r := rand.New(rand.NewSource(116))
	for range 30000 {
		near := someNear(r)
		l, shots := someMovers(r, near), someShots(r, near, 48)
		hits, _ := hit.Shots(l, shots)
		taken, _ := hit.Pickups(l, lie(2, 0, 1), []api.Point{near, at(near.X-2048, near.Y), at(near.X, near.Y+2048)})
		if !atMostOnce(hits) || !atMostOnce(taken) {
			t.Fatalf("%+v: %v %v", l, hits, taken)
		}
		for _, m := range hits {
			if shots[m.A].Owner == m.B {
				t.Fatalf("%+v is hit by its own shot %+v", l[m.B], shots[m.A])
			}
		}
	}
}

// TestP11_5OwnShot: a mover that has fired is not hit by its shot, wherever that is.
func TestP11_5OwnShot(t *testing.T) {
	for place := range 6 {
		for x := -1500; x <= 1500; x += 50 {
			l := []api.Mover{out(0, 0), out(0, 0), out(0, 0), out(0, 0), out(0, 0), out(0, 0)}
			l[place] = in(0, 0)
			wantShots(t, "an own shot", l, volley(3, place, x, 0))
		}
	}
}

// TestP11_5Apart: twice is as nothing; what two have together of speed stays; what may be stays so.
func TestP11_5Apart(t *testing.T) {
	r := rand.New(rand.NewSource(117))
	for range 100000 {
		a, b := someMover(r, someNear(r)), someMover(r, someNear(r))
		c, d, e1 := hit.Apart(a, b)
		again, other, e2 := hit.Apart(c, d)
		if again != a || other != b || e1 != api.OK || e2 != api.OK {
			t.Fatalf("Apart(%+v, %+v) twice: %+v %+v %d %d", a, b, again, other, e1, e2)
		}
		if a.Speed.X+b.Speed.X != c.Speed.X+d.Speed.X || a.Speed.Y+b.Speed.Y != c.Speed.Y+d.Speed.Y {
			t.Fatalf("Apart(%+v, %+v): %+v %+v", a, b, c, d)
		}
		if mover.Check(c) != api.OK || mover.Check(d) != api.OK {
			t.Fatalf("Apart(%+v, %+v): %+v %+v may not be", a, b, c, d)
		}
	}
}
