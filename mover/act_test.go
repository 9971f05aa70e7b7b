package mover_test

import (
	"math"
	"math/rand"
	"testing"

	"echelon/api"
	"echelon/mover"
	"echelon/verb"
)

// meantDash is the unit of a direction, by chapter 5, times 1024: fixed numbers, so that is four times it.
func meantDash(direction int) api.Point {
	units := [16]api.Point{{X: 256, Y: 0}, {X: 237, Y: 98}, {X: 181, Y: 181}, {X: 98, Y: 237}, {X: 0, Y: 256}, {X: -98, Y: 237}, {X: -181, Y: 181}, {X: -237, Y: 98}, {X: -256, Y: 0}, {X: -237, Y: -98}, {X: -181, Y: -181}, {X: -98, Y: -237}, {X: 0, Y: -256}, {X: 98, Y: -237}, {X: 181, Y: -181}, {X: 237, Y: -98}}
	return at(units[direction].X*4, units[direction].Y*4)
}

// meantAct is P8.2.
func meantAct(m api.Mover, o api.Order) (api.Mover, bool, api.Errno) {
	if !meantMayBe(m) {
		return api.Mover{}, false, 80
	}
	if e := verb.Check(o); e != api.OK {
		return api.Mover{}, false, e
	}
	if m.Out > 0 {
		return m, false, api.OK
	}
	was := m
	switch o.Verb {
	case 1:
		m.Push = at(32*o.A, 32*o.B)
	case 2:
		m.Push = at(0, 0)
	case 3:
		m.Facing = o.A
	case 4:
		m.Energy, m.Cool = m.Energy-10*o.A, 4*o.A
		if was.Cool > 0 || was.Energy < 10*o.A {
			return was, false, api.OK
		}
	case 5:
		m.Shield = o.A == 1
		if o.A == 1 && was.Energy == 0 {
			return was, false, api.OK
		}
	case 6:
		m.Energy, m.Speed = m.Energy-20, meantDash(o.A)
		if was.Energy < 20 {
			return was, false, api.OK
		}
	case 7:
		m.Said = o.A
	}
	return m, true, api.OK
}

func askAct(t *testing.T, m api.Mover, o api.Order) {
	t.Helper()
	want, wantDone, wantErrno := meantAct(m, o)
	if got, done, e := mover.Act(m, o); got != want || done != wantDone || e != wantErrno {
		t.Errorf("Act(%+v, %v): %+v %v %d, not %+v %v %d", m, o, got, done, e, want, wantDone, wantErrno)
	}
}

// goodOrders are the orders that may be, by chapter 7.
func goodOrders() []api.Order {
	var l []api.Order
	for a := -8; a <= 8; a++ {
		for b := -8; b <= 8; b++ {
			l = append(l, api.Order{Verb: api.Steer, A: a, B: b})
		}
	}
	l = append(l, api.Order{Verb: api.Halt})
	for _, r := range [][3]int{{api.Aim, 0, 15}, {api.Fire, 1, 3}, {api.Shield, 0, 1}, {api.Dash, 0, 15}, {api.Say, 0, 255}} {
		for a := r[1]; a <= r[2]; a++ {
			l = append(l, api.Order{Verb: r[0], A: a})
		}
	}
	return l
}

// barredOrders are some that verb bars, with its errors.
func barredOrders() map[api.Order]api.Errno {
	l := map[api.Order]api.Errno{}
	for _, v := range []int{0, -1, 8, 9, 256 + api.Fire, 1<<32 + api.Fire, math.MinInt, math.MaxInt} {
		l[api.Order{Verb: v}] = 70
		l[api.Order{Verb: v, A: 1, B: 1, C: 1}] = 70
	}
	for _, o := range []api.Order{
		{Verb: api.Steer, A: 9}, {Verb: api.Steer, A: -9}, {Verb: api.Steer, B: 9}, {Verb: api.Steer, B: -9}, {Verb: api.Steer, C: 1}, {Verb: api.Steer, A: math.MinInt}, {Verb: api.Steer, B: math.MaxInt},
		{Verb: api.Halt, A: 1}, {Verb: api.Halt, B: -1}, {Verb: api.Halt, C: 1},
		{Verb: api.Aim, A: 16}, {Verb: api.Aim, A: -1}, {Verb: api.Aim, A: 1, B: 1},
		{Verb: api.Fire}, {Verb: api.Fire, A: 4}, {Verb: api.Fire, A: -1}, {Verb: api.Fire, A: 1, C: 1}, {Verb: api.Fire, A: math.MinInt}, {Verb: api.Fire, A: math.MaxInt},
		{Verb: api.Shield, A: 2}, {Verb: api.Shield, A: -1}, {Verb: api.Shield, B: 1},
		{Verb: api.Dash, A: 16}, {Verb: api.Dash, A: -1}, {Verb: api.Dash, B: 1}, {Verb: api.Dash, A: math.MaxInt},
		{Verb: api.Say, A: 256}, {Verb: api.Say, A: -1}, {Verb: api.Say, C: -1},
	} {
		l[o] = 71
	}
	return l
}

func TestP8_2Act(t *testing.T) {
	full := api.Mover{At: at(7, 8), Speed: at(5, -6), Push: at(9, -10), Facing: 3, Health: 60, Energy: 100, Said: 2}
	for _, c := range []struct {
		o      api.Order
		change func(m *api.Mover)
	}{
		{api.Order{Verb: api.Steer, A: 8, B: -8}, func(m *api.Mover) { m.Push = at(256, -256) }},
		{api.Order{Verb: api.Steer, A: -8, B: 8}, func(m *api.Mover) { m.Push = at(-256, 256) }},
		{api.Order{Verb: api.Steer, A: 1}, func(m *api.Mover) { m.Push = at(32, 0) }},
		{api.Order{Verb: api.Steer, B: -3}, func(m *api.Mover) { m.Push = at(0, -96) }},
		{api.Order{Verb: api.Steer}, func(m *api.Mover) { m.Push = at(0, 0) }},
		{api.Order{Verb: api.Halt}, func(m *api.Mover) { m.Push = at(0, 0) }},
		{api.Order{Verb: api.Aim, A: 15}, func(m *api.Mover) { m.Facing = 15 }},
		{api.Order{Verb: api.Aim}, func(m *api.Mover) { m.Facing = 0 }},
		{api.Order{Verb: api.Fire, A: 1}, func(m *api.Mover) { m.Energy, m.Cool = 90, 4 }},
		{api.Order{Verb: api.Fire, A: 2}, func(m *api.Mover) { m.Energy, m.Cool = 80, 8 }},
		{api.Order{Verb: api.Fire, A: 3}, func(m *api.Mover) { m.Energy, m.Cool = 70, 12 }},
		{api.Order{Verb: api.Shield, A: 1}, func(m *api.Mover) { m.Shield = true }},
		{api.Order{Verb: api.Shield}, func(m *api.Mover) {}},
		{api.Order{Verb: api.Dash}, func(m *api.Mover) { m.Energy, m.Speed = 80, at(1024, 0) }},
		{api.Order{Verb: api.Dash, A: 3}, func(m *api.Mover) { m.Energy, m.Speed = 80, at(392, 948) }},
		{api.Order{Verb: api.Dash, A: 10}, func(m *api.Mover) { m.Energy, m.Speed = 80, at(-724, -724) }},
		{api.Order{Verb: api.Dash, A: 12}, func(m *api.Mover) { m.Energy, m.Speed = 80, at(0, -1024) }},
		{api.Order{Verb: api.Dash, A: 15}, func(m *api.Mover) { m.Energy, m.Speed = 80, at(948, -392) }},
		{api.Order{Verb: api.Say, A: 255}, func(m *api.Mover) { m.Said = 255 }},
		{api.Order{Verb: api.Say}, func(m *api.Mover) { m.Said = 0 }},
	} {
		want := with(full, c.change)
		if got, done, e := mover.Act(full, c.o); got != want || !done || e != api.OK {
			t.Errorf("Act(.., %v): %+v %v %d, not %+v", c.o, got, done, e, want)
		}
	}
}

func TestP8_2ActEdges(t *testing.T) {
	m := func(energy, cool int, shield bool) api.Mover {
		return api.Mover{Health: 1, Energy: energy, Cool: cool, Shield: shield}
	}
	for _, c := range []struct {
		verb, a int
		m, want api.Mover
		done    bool
	}{
		{api.Fire, 1, m(10, 0, false), m(0, 4, false), true}, {api.Fire, 1, m(9, 0, false), m(9, 0, false), false}, {api.Fire, 1, m(11, 0, false), m(1, 4, false), true},
		{api.Fire, 2, m(20, 0, false), m(0, 8, false), true}, {api.Fire, 2, m(19, 0, false), m(19, 0, false), false}, {api.Fire, 2, m(21, 0, false), m(1, 8, false), true},
		{api.Fire, 3, m(30, 0, false), m(0, 12, false), true}, {api.Fire, 3, m(29, 0, false), m(29, 0, false), false}, {api.Fire, 3, m(31, 0, false), m(1, 12, false), true},
		{api.Fire, 1, m(100, 1, false), m(100, 1, false), false}, {api.Fire, 1, m(100, 12, false), m(100, 12, false), false}, {api.Fire, 1, m(0, 0, false), m(0, 0, false), false},
		{api.Fire, 1, m(10, 0, true), m(0, 4, true), true}, // Shield stays, without Energy too
		{api.Shield, 1, m(0, 0, false), m(0, 0, false), false}, {api.Shield, 1, m(1, 0, false), m(1, 0, true), true}, {api.Shield, 1, m(1, 0, true), m(1, 0, true), true}, {api.Shield, 1, m(0, 0, true), m(0, 0, true), false},
		{api.Shield, 0, m(0, 0, true), m(0, 0, false), true}, {api.Shield, 0, m(0, 0, false), m(0, 0, false), true}, {api.Shield, 0, m(1, 0, true), m(1, 0, false), true}, {api.Shield, 0, m(1, 0, false), m(1, 0, false), true},
		{api.Dash, 0, m(19, 0, false), m(19, 0, false), false},
	} {
		if got, done, e := mover.Act(c.m, api.Order{Verb: c.verb, A: c.a}); got != c.want || done != c.done || e != api.OK {
			t.Errorf("Act(%+v, %d %d): %+v %v %d, not %+v %v", c.m, c.verb, c.a, got, done, e, c.want, c.done)
		}
	}
	for energy, left := range map[int]int{20: 0, 21: 1} {
		got, done, e := mover.Act(m(energy, 12, true), api.Order{Verb: api.Dash, A: 8})
		want := m(left, 12, true)
		want.Speed = at(-1024, 0)
		if got != want || !done || e != api.OK {
			t.Errorf("Act with Energy %d, Dash 8: %+v %v %d", energy, got, done, e)
		}
	}
}

// TestP8_2ActExamples goes through the chapter's row of orders.
func TestP8_2ActExamples(t *testing.T) {
	m := mover.Start(at(1, 2), 17)
	fired, done, e := mover.Act(m, api.Order{Verb: api.Fire, A: 3})
	if want := (api.Mover{At: at(1, 2), Facing: 1, Health: 100, Energy: 20, Cool: 12}); fired != want || !done || e != api.OK {
		t.Errorf("%+v %v %d", fired, done, e)
	}
	if again, done, e := mover.Act(fired, api.Order{Verb: api.Fire, A: 1}); again != fired || done || e != api.OK {
		t.Errorf("%+v %v %d", again, done, e)
	}
}

func TestP8_2ActOut(t *testing.T) {
	r := rand.New(rand.NewSource(82))
	for _, out := range []int{1, 2, 30} {
		m := api.Mover{At: at(someIn(r, -bound, bound), 9), Facing: 7, Said: 31, Out: out}
		for _, o := range goodOrders() {
			if got, done, e := mover.Act(m, o); got != m || done || e != api.OK {
				t.Errorf("Act(%+v, %v): %+v %v %d", m, o, got, done, e)
			}
		}
		for o, want := range barredOrders() {
			if got, done, e := mover.Act(m, o); got != (api.Mover{}) || done || e != want {
				t.Errorf("Act(%+v, %v): %+v %v %d, not %d", m, o, got, done, e, want)
			}
		}
	}
}

func TestP8_2ActWrong(t *testing.T) {
	barred := barredOrders()
	for o, want := range barred {
		for _, m := range []api.Mover{fresh(), {Health: 1}, {Health: 1, Cool: 1}} {
			if got, done, e := mover.Act(m, o); got != (api.Mover{}) || done || e != want {
				t.Errorf("Act(%+v, %v): %+v %v %d, not %d", m, o, got, done, e, want)
			}
		}
	}
	for _, m := range spoilt() {
		for _, o := range []api.Order{{Verb: api.Steer, A: 1}, {Verb: api.Halt}, {Verb: api.Aim}, {Verb: api.Fire, A: 1}, {Verb: api.Shield, A: 1}, {Verb: api.Shield}, {Verb: api.Dash}, {Verb: api.Say}} {
			if got, done, e := mover.Act(m, o); got != (api.Mover{}) || done || e != 80 {
				t.Errorf("Act(%+v, %v): %+v %v %d", m, o, got, done, e)
			}
		}
		for o := range barred {
			if got, done, e := mover.Act(m, o); got != (api.Mover{}) || done || e != 80 {
				t.Errorf("Act(%+v, %v): %+v %v %d", m, o, got, done, e)
			}
		}
	}
}

// TestP8_2ActAll asks each order of movers with each Energy, Shield, and some Cools.
func TestP8_2ActAll(t *testing.T) {
	base := api.Mover{At: at(-3, 4), Speed: at(11, -12), Push: at(-13, 14), Facing: 9, Health: 50, Said: 99}
	for _, o := range goodOrders() {
		for _, energy := range []int{0, 1, 9, 10, 11, 19, 20, 21, 29, 30, 31, 99, 100} {
			for _, cool := range []int{0, 1, 12} {
				for _, shield := range []bool{false, true} {
					askAct(t, with(base, func(m *api.Mover) { m.Energy, m.Cool, m.Shield = energy, cool, shield }), o)
				}
			}
		}
	}
}

func TestP8_2ActSome(t *testing.T) {
	r := rand.New(rand.NewSource(83))
	orders := goodOrders()
	for range 100000 {
		askAct(t, someMover(r), orders[r.Intn(len(orders))])
	}
	for energy := 0; energy <= 100; energy++ {
		for cool := 0; cool <= 12; cool++ {
			m := with(fresh(), func(m *api.Mover) { m.Energy, m.Cool = energy, cool })
			for a := 1; a <= 3; a++ {
				askAct(t, m, api.Order{Verb: api.Fire, A: a})
			}
			askAct(t, m, api.Order{Verb: api.Shield, A: 1})
			askAct(t, m, api.Order{Verb: api.Dash, A: cool})
		}
	}
}
