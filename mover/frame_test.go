package mover_test

import (
	"math"
	"math/rand"
	"testing"

	"echelon/api"
	"echelon/mover"
)

// meantHurt is P8.4.
func meantHurt(m api.Mover, harm int) (api.Mover, bool, api.Errno) {
	if !meantMayBe(m) {
		return api.Mover{}, false, 80
	}
	if harm < 1 || harm > 100 {
		return api.Mover{}, false, 1
	}
	if m.Out > 0 {
		return m, false, api.OK
	}
	for ; harm > 0; harm-- {
		if m.Shield && m.Energy > 0 {
			m.Energy--
		} else {
			m.Health--
		}
	}
	if m.Energy == 0 {
		m.Shield = false
	}
	if m.Health <= 0 {
		return api.Mover{At: m.At, Facing: m.Facing, Said: m.Said, Out: 30}, true, api.OK
	}
	return m, false, api.OK
}

func askHurt(t *testing.T, m api.Mover, harm int) {
	t.Helper()
	want, wantOut, wantErrno := meantHurt(m, harm)
	if got, out, e := mover.Hurt(m, harm); got != want || out != wantOut || e != wantErrno {
		t.Errorf("Hurt(%+v, %d): %+v %v %d, not %+v %v %d", m, harm, got, out, e, want, wantOut, wantErrno)
	}
}

func TestP8_4Hurt(t *testing.T) {
	m := func(health, energy int, shield bool) api.Mover {
		return api.Mover{At: at(1, -2), Speed: at(3, -4), Push: at(5, -6), Facing: 7, Health: health, Energy: energy, Shield: shield, Cool: 8, Said: 9}
	}
	gone := api.Mover{At: at(1, -2), Facing: 7, Out: 30, Said: 9}
	for _, c := range []struct {
		m    api.Mover
		harm int
		want api.Mover
		out  bool
	}{
		{m(100, 50, false), 45, m(55, 50, false), false},
		{m(100, 30, true), 45, m(85, 0, false), false},
		{m(45, 50, false), 45, gone, true},
		{m(46, 50, false), 45, m(1, 50, false), false}, {m(44, 50, false), 45, gone, true},
		{m(1, 50, false), 1, gone, true}, {m(2, 50, false), 1, m(1, 50, false), false}, {m(1, 100, false), 100, gone, true},
		{m(100, 100, false), 99, m(1, 100, false), false}, {m(100, 100, false), 100, gone, true},
		{m(100, 50, true), 49, m(100, 1, true), false}, {m(100, 50, true), 50, m(100, 0, false), false}, {m(100, 50, true), 51, m(99, 0, false), false},
		{m(1, 1, true), 1, m(1, 0, false), false}, {m(1, 1, true), 2, gone, true}, {m(1, 100, true), 100, m(1, 0, false), false}, {m(1, 100, true), 99, m(1, 1, true), false},
		{m(10, 0, true), 1, m(9, 0, false), false}, {m(1, 0, true), 1, gone, true}, {m(10, 0, false), 1, m(9, 0, false), false},
		{m(50, 50, true), 99, m(1, 0, false), false}, {m(50, 50, true), 100, gone, true}, {m(49, 50, true), 100, gone, true},
	} {
		if got, out, e := mover.Hurt(c.m, c.harm); got != c.want || out != c.out || e != api.OK {
			t.Errorf("Hurt(%+v, %d): %+v %v %d, not %+v %v", c.m, c.harm, got, out, e, c.want, c.out)
		}
	}
}

// TestP8_4HurtAll asks each Health, Shield and harm, with Energies at the edges of these.
func TestP8_4HurtAll(t *testing.T) {
	for harm := 1; harm <= 100; harm++ {
		for health := 1; health <= 100; health++ {
			for _, energy := range []int{0, 1, 2, harm - 1, harm, min(harm+1, 100), max(harm-health, 0), max(harm-health+1, 0), 99, 100} {
				for _, shield := range []bool{false, true} {
					askHurt(t, api.Mover{At: at(3, 4), Speed: at(-1, 1), Push: at(1, -1), Facing: 2, Health: health, Energy: energy, Shield: shield, Cool: 1, Said: 5}, harm)
				}
			}
		}
	}
}

func TestP8_4HurtOut(t *testing.T) {
	for _, m := range []api.Mover{{Out: 1}, {Out: 2, At: at(-bound, bound), Facing: 15, Said: 255}, {Out: 30}} {
		for harm := 1; harm <= 100; harm++ {
			if got, out, e := mover.Hurt(m, harm); got != m || out || e != api.OK {
				t.Errorf("Hurt(%+v, %d): %+v %v %d", m, harm, got, out, e)
			}
		}
	}
}

func TestP8_4HurtWrong(t *testing.T) {
	harms := []int{math.MinInt, math.MinInt + 1, -1 << 32, -100, -1, 0, 101, 102, 1<<32 + 1, math.MaxInt - 1, math.MaxInt}
	for _, harm := range harms {
		for _, m := range []api.Mover{fresh(), {Health: 1, Shield: true}, {Health: 1, Energy: 100, Shield: true}, {Out: 1}, {Out: 30}} {
			if got, out, e := mover.Hurt(m, harm); got != (api.Mover{}) || out || e != 1 {
				t.Errorf("Hurt(%+v, %d): %+v %v %d", m, harm, got, out, e)
			}
		}
	}
	for _, m := range spoilt() {
		for _, harm := range append(harms, 1, 50, 100) {
			if got, out, e := mover.Hurt(m, harm); got != (api.Mover{}) || out || e != 80 {
				t.Errorf("Hurt(%+v, %d): %+v %v %d", m, harm, got, out, e)
			}
		}
	}
}

func TestP8_4HurtSome(t *testing.T) {
	r := rand.New(rand.NewSource(85))
	for range 100000 {
		askHurt(t, someMover(r), someIn(r, -1, 102))
	}
}

// meantRest is P8.5.
func meantRest(m api.Mover, to api.Point) (api.Mover, bool, api.Errno) {
	if !meantMayBe(m) {
		return api.Mover{}, false, 80
	}
	if m.Out > 1 {
		m.Out--
		return m, false, api.OK
	}
	if m.Out == 1 {
		to = at(min(max(to.X, -bound), bound), min(max(to.Y, -bound), bound))
		return api.Mover{At: to, Facing: m.Facing, Health: 100, Energy: 50, Said: m.Said}, true, api.OK
	}
	if m.Cool > 0 {
		m.Cool--
	}
	if m.Shield {
		m.Energy -= 2
		if m.Energy < 0 {
			m.Energy = 0
		}
		if m.Energy == 0 {
			m.Shield = false
		}
	} else if m.Energy < 100 {
		m.Energy++
	}
	return m, false, api.OK
}

func askRest(t *testing.T, m api.Mover, to api.Point) {
	t.Helper()
	want, wantBack, wantErrno := meantRest(m, to)
	if got, back, e := mover.Rest(m, to); got != want || back != wantBack || e != wantErrno {
		t.Errorf("Rest(%+v, %v): %+v %v %d, not %+v %v %d", m, to, got, back, e, want, wantBack, wantErrno)
	}
}

func TestP8_5RestInPlay(t *testing.T) {
	m := func(energy int, shield bool, cool int) api.Mover {
		return api.Mover{At: at(1, -2), Speed: at(3, -4), Push: at(5, -6), Facing: 7, Health: 8, Energy: energy, Shield: shield, Cool: cool, Said: 9}
	}
	for _, c := range []struct{ m, want api.Mover }{
		{m(1, true, 3), m(0, false, 2)},
		{m(50, false, 12), m(51, false, 11)}, {m(50, false, 1), m(51, false, 0)}, {m(50, false, 0), m(51, false, 0)},
		{m(0, true, 0), m(0, false, 0)}, {m(2, true, 0), m(0, false, 0)}, {m(3, true, 0), m(1, true, 0)}, {m(4, true, 1), m(2, true, 0)}, {m(100, true, 0), m(98, true, 0)},
		{m(0, false, 0), m(1, false, 0)}, {m(98, false, 0), m(99, false, 0)}, {m(99, false, 0), m(100, false, 0)}, {m(100, false, 0), m(100, false, 0)}, {m(100, false, 1), m(100, false, 0)},
	} {
		if got, back, e := mover.Rest(c.m, at(77, 88)); got != c.want || back || e != api.OK {
			t.Errorf("Rest(%+v): %+v %v %d, not %+v", c.m, got, back, e, c.want)
		}
	}
	for energy := 0; energy <= 100; energy++ {
		for cool := 0; cool <= 12; cool++ {
			askRest(t, m(energy, false, cool), at(77, 88))
			askRest(t, m(energy, true, cool), at(77, 88))
		}
	}
}

func TestP8_5RestOut(t *testing.T) {
	for _, c := range []struct {
		m    api.Mover
		to   api.Point
		want api.Mover
		back bool
	}{
		{api.Mover{Out: 1, Said: 3}, at(9, 0), api.Mover{At: at(9, 0), Health: 100, Energy: 50, Said: 3}, true},
		{api.Mover{At: at(5, 6), Facing: 15, Out: 1, Said: 255}, at(-7, 8), api.Mover{At: at(-7, 8), Facing: 15, Health: 100, Energy: 50, Said: 255}, true},
		{api.Mover{At: at(5, 6), Facing: 4, Out: 1}, at(math.MaxInt, math.MinInt), api.Mover{At: at(bound, -bound), Facing: 4, Health: 100, Energy: 50}, true},
		{api.Mover{At: at(5, 6), Facing: 4, Out: 1}, at(-bound-1, bound+1), api.Mover{At: at(-bound, bound), Facing: 4, Health: 100, Energy: 50}, true},
		{api.Mover{At: at(5, 6), Facing: 4, Out: 2, Said: 7}, at(-7, 8), api.Mover{At: at(5, 6), Facing: 4, Out: 1, Said: 7}, false},
		{api.Mover{At: at(5, 6), Facing: 4, Out: 30, Said: 7}, at(-7, 8), api.Mover{At: at(5, 6), Facing: 4, Out: 29, Said: 7}, false},
		{api.Mover{Out: 30}, at(math.MinInt, math.MaxInt), api.Mover{Out: 29}, false},
	} {
		if got, back, e := mover.Rest(c.m, c.to); got != c.want || back != c.back || e != api.OK {
			t.Errorf("Rest(%+v, %v): %+v %v %d, not %+v %v", c.m, c.to, got, back, e, c.want, c.back)
		}
	}
	for out := 1; out <= 30; out++ {
		for facing := 0; facing <= 15; facing++ {
			askRest(t, api.Mover{At: at(out, -out), Facing: facing, Out: out, Said: 8 * out}, at(11, 12))
		}
	}
}

func TestP8_5RestSome(t *testing.T) {
	r := rand.New(rand.NewSource(86))
	ends := []int{math.MinInt, -bound - 1, -bound, -1, 0, 1, bound, bound + 1, math.MaxInt}
	for range 100000 {
		askRest(t, someMover(r), at(ends[r.Intn(9)], ends[r.Intn(9)]))
	}
}

func TestP8_5RestWrong(t *testing.T) {
	for _, m := range spoilt() {
		for _, to := range []api.Point{at(0, 0), at(math.MaxInt, math.MinInt)} {
			if got, back, e := mover.Rest(m, to); got != (api.Mover{}) || back || e != 80 {
				t.Errorf("Rest(%+v, %v): %+v %v %d", m, to, got, back, e)
			}
		}
	}
}
