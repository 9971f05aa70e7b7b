package hit_test

import (
	"math/rand"
	"testing"

	"echelon/api"
	"echelon/hit"
)

// fast is a mover in play with that speed, and a number of its own in each other field.
func fast(x, y, own int) api.Mover {
	return api.Mover{
		At: at(own, -own), Speed: at(x, y), Push: at(own, own+1),
		Facing: own % 16, Health: own, Energy: own + 1, Shield: own%2 == 0, Cool: own % 13, Said: own,
	}
}

// wantApart asks for two movers without an error.
func wantApart(t *testing.T, name string, a, b, wantA, wantB api.Mover) {
	t.Helper()
	if gotA, gotB, e := hit.Apart(a, b); gotA != wantA || gotB != wantB || e != api.OK {
		t.Errorf("%s: Apart(%+v, %+v): %+v %+v %d, not %+v %+v", name, a, b, gotA, gotB, e, wantA, wantB)
	}
}

func TestP11_2Apart(t *testing.T) {
	wantApart(t, "the example", fast(1, 2, 10), fast(3, 4, 25), fast(3, 4, 10), fast(1, 2, 25))
	wantApart(t, "the other way round", fast(3, 4, 25), fast(1, 2, 10), fast(1, 2, 25), fast(3, 4, 10))
	wantApart(t, "at the ends", fast(-1024, 1024, 99), fast(1024, -1024, 1), fast(1024, -1024, 99), fast(-1024, 1024, 1))
	wantApart(t, "one that stands", fast(0, 0, 7), fast(5, -6, 8), fast(5, -6, 7), fast(0, 0, 8))
	wantApart(t, "the same speed", fast(9, 9, 7), fast(9, 9, 8), fast(9, 9, 7), fast(9, 9, 8))
	wantApart(t, "the same on one axis", fast(9, 1, 7), fast(9, 2, 8), fast(9, 2, 7), fast(9, 1, 8))
	wantApart(t, "one that is like itself", fast(9, 1, 7), fast(9, 1, 7), fast(9, 1, 7), fast(9, 1, 7))
}

// TestP11_2FarApart: whether they touch is not asked.
func TestP11_2FarApart(t *testing.T) {
	a, b := fast(1, 2, 10), fast(3, 4, 25)
	a.At, b.At = at(-bound, bound), at(bound, -bound)
	wantA, wantB := a, b
	wantA.Speed, wantB.Speed = at(3, 4), at(1, 2)
	wantApart(t, "far apart", a, b, wantA, wantB)
}

func TestP11_2Out(t *testing.T) {
	a := fast(1, 2, 10)
	for frames := 1; frames <= 30; frames++ {
		o, other := out(9, 9), out(-9, 9)
		o.Out = frames
		wantApart(t, "the second one out", a, o, a, o)
		wantApart(t, "the first one out", o, a, o, a)
		wantApart(t, "both out", o, other, o, other)
		wantApart(t, "both out, the other way round", other, o, other, o)
	}
}

func TestP11_2Spoilt(t *testing.T) {
	for _, m := range spoiltMovers() {
		for _, good := range []api.Mover{fast(1, 2, 10), in(0, 0), out(0, 0), {Out: 30}} {
			for _, pair := range [][2]api.Mover{{good, m}, {m, good}, {m, m}} {
				if a, b, e := hit.Apart(pair[0], pair[1]); a != (api.Mover{}) || b != (api.Mover{}) || e != 110 {
					t.Errorf("Apart(%+v, %+v): %+v %+v %d", pair[0], pair[1], a, b, e)
				}
			}
		}
	}
}

func TestP11_2Some(t *testing.T) {
	r := rand.New(rand.NewSource(112))
	for range 100000 {
		a, b := someMover(r, someNear(r)), someMover(r, someNear(r))
		wantA, wantB := a, b
		if a.Out == 0 && b.Out == 0 {
			wantA.Speed, wantB.Speed = b.Speed, a.Speed
		}
		wantApart(t, "some", a, b, wantA, wantB)
	}
}
