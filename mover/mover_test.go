package mover_test

import (
	"math"
	"math/rand"
	"testing"

	"echelon/api"
	"echelon/mover"
)

const bound = 2147483647

func at(x, y int) api.Point { return api.Point{X: x, Y: y} }

// fresh is a mover that begins, as the chapter tells it.
func fresh() api.Mover { return api.Mover{Health: 100, Energy: 50} }

// with is a mover that is changed.
func with(m api.Mover, change func(m *api.Mover)) api.Mover {
	change(&m)
	return m
}

// field is one of a mover's numbers, and what it may be in play.
type field struct {
	name        string
	least, most int
	set         func(m *api.Mover, n int)
	whenOut     bool // may it be there, if the mover is out?
}

func fields() []field {
	return []field{
		{"At.X", -bound, bound, func(m *api.Mover, n int) { m.At.X = n }, true},
		{"At.Y", -bound, bound, func(m *api.Mover, n int) { m.At.Y = n }, true},
		{"Speed.X", -1024, 1024, func(m *api.Mover, n int) { m.Speed.X = n }, false},
		{"Speed.Y", -1024, 1024, func(m *api.Mover, n int) { m.Speed.Y = n }, false},
		{"Push.X", -256, 256, func(m *api.Mover, n int) { m.Push.X = n }, false},
		{"Push.Y", -256, 256, func(m *api.Mover, n int) { m.Push.Y = n }, false},
		{"Facing", 0, 15, func(m *api.Mover, n int) { m.Facing = n }, true},
		{"Health", 1, 100, func(m *api.Mover, n int) { m.Health = n }, false},
		{"Energy", 0, 100, func(m *api.Mover, n int) { m.Energy = n }, false},
		{"Cool", 0, 12, func(m *api.Mover, n int) { m.Cool = n }, false},
		{"Said", 0, 255, func(m *api.Mover, n int) { m.Said = n }, true},
	}
}

// around are the numbers at a field's ends and beyond them.
func (f field) around() []int {
	return []int{math.MinInt, math.MinInt + 1, -1 << 32, f.least - 1, f.least, f.least + 1, -1, 0, 1, f.most - 1, f.most, f.most + 1, 1 << 32, math.MaxInt - 1, math.MaxInt}
}

// meantMayBe is the chapter's 'A mover may be'.
func meantMayBe(m api.Mover) bool {
	for _, n := range []int{m.At.X, m.At.Y} {
		if n < -2147483647 || n > 2147483647 {
			return false
		}
	}
	for _, n := range []int{m.Speed.X, m.Speed.Y} {
		if n < -1024 || n > 1024 {
			return false
		}
	}
	for _, n := range []int{m.Push.X, m.Push.Y} {
		if n < -256 || n > 256 {
			return false
		}
	}
	for _, r := range [][2]int{{m.Facing, 15}, {m.Health, 100}, {m.Energy, 100}, {m.Cool, 12}, {m.Out, 30}, {m.Said, 255}} {
		if r[0] < 0 || r[0] > r[1] {
			return false
		}
	}
	if m.Out == 0 {
		return m.Health >= 1
	}
	return m.Health == 0 && m.Energy == 0 && m.Cool == 0 && m.Speed == at(0, 0) && m.Push == at(0, 0) && !m.Shield
}

func meantCheck(m api.Mover) api.Errno {
	if meantMayBe(m) {
		return api.OK
	}
	return 80
}

func askCheck(t *testing.T, m api.Mover) {
	t.Helper()
	if got, want := mover.Check(m), meantCheck(m); got != want {
		t.Errorf("Check(%+v): %d, not %d", m, got, want)
	}
}

// someIn is a number of a range, often at its ends.
func someIn(r *rand.Rand, least, most int) int {
	switch r.Intn(6) {
	case 0:
		return least
	case 1:
		return most
	case 2:
		return min(least+1, most)
	}
	return least + r.Intn(most-least+1)
}

// someMover is one that may be.
func someMover(r *rand.Rand) api.Mover {
	m := api.Mover{At: at(someIn(r, 0, 40000), someIn(r, 0, 40000)), Facing: someIn(r, 0, 15), Said: someIn(r, 0, 255)}
	if r.Intn(8) == 0 {
		m.At = at(someIn(r, -bound, bound), someIn(r, -bound, bound))
	}
	if r.Intn(5) == 0 {
		m.Out = someIn(r, 1, 30)
		return m
	}
	m.Speed, m.Push = at(someIn(r, -1024, 1024), someIn(r, -1024, 1024)), at(someIn(r, -256, 256), someIn(r, -256, 256))
	m.Health, m.Energy, m.Cool, m.Shield = someIn(r, 1, 100), someIn(r, 0, 100), someIn(r, 0, 12), r.Intn(2) == 0
	return m
}

// spoilt are movers that may not be, each for another reason.
func spoilt() []api.Mover {
	var l []api.Mover
	out := api.Mover{Out: 7, At: at(3, 4), Facing: 5, Said: 6}
	for _, f := range fields() {
		for _, n := range f.around() {
			for _, base := range []api.Mover{fresh(), out} {
				m := with(base, func(m *api.Mover) { f.set(m, n) })
				if !meantMayBe(m) {
					l = append(l, m)
				}
			}
		}
	}
	for _, n := range []int{math.MinInt, -1, 31, math.MaxInt} {
		l = append(l, with(out, func(m *api.Mover) { m.Out = n }), with(fresh(), func(m *api.Mover) { m.Out = n }))
	}
	return append(l, api.Mover{}, with(out, func(m *api.Mover) { m.Shield = true }), with(fresh(), func(m *api.Mover) { m.Out = 1 }), with(fresh(), func(m *api.Mover) { m.Health = 0 }))
}

func TestP8_1Start(t *testing.T) {
	for _, c := range []struct {
		p      api.Point
		facing int
		want   api.Mover
	}{
		{at(1, 2), 17, api.Mover{At: at(1, 2), Facing: 1, Health: 100, Energy: 50}},
		{at(0, 0), 0, api.Mover{Health: 100, Energy: 50}},
		{at(-5, 6144), 15, api.Mover{At: at(-5, 6144), Facing: 15, Health: 100, Energy: 50}},
		{at(0, 0), 16, api.Mover{Health: 100, Energy: 50}},
		{at(0, 0), -1, api.Mover{Facing: 15, Health: 100, Energy: 50}},
		{at(0, 0), -15, api.Mover{Facing: 1, Health: 100, Energy: 50}},
		{at(0, 0), -16, api.Mover{Health: 100, Energy: 50}},
		{at(0, 0), -17, api.Mover{Facing: 15, Health: 100, Energy: 50}},
		{at(0, 0), math.MaxInt, api.Mover{Facing: 15, Health: 100, Energy: 50}},
		{at(0, 0), math.MinInt, api.Mover{Health: 100, Energy: 50}},
		{at(0, 0), math.MinInt + 1, api.Mover{Facing: 1, Health: 100, Energy: 50}},
		{at(bound, -bound), 4, api.Mover{At: at(bound, -bound), Facing: 4, Health: 100, Energy: 50}},
		{at(bound+1, -bound-1), 4, api.Mover{At: at(bound, -bound), Facing: 4, Health: 100, Energy: 50}},
		{at(-bound-1, bound+1), 4, api.Mover{At: at(-bound, bound), Facing: 4, Health: 100, Energy: 50}},
		{at(math.MinInt, math.MaxInt), 8, api.Mover{At: at(-bound, bound), Facing: 8, Health: 100, Energy: 50}},
		{at(1<<32, -1<<40), 8, api.Mover{At: at(bound, -bound), Facing: 8, Health: 100, Energy: 50}},
	} {
		if got := mover.Start(c.p, c.facing); got != c.want {
			t.Errorf("Start(%v, %d): %+v, not %+v", c.p, c.facing, got, c.want)
		}
	}
	for facing := -100; facing <= 100; facing++ {
		want := with(fresh(), func(m *api.Mover) { m.Facing = ((facing % 16) + 16) % 16 })
		if got := mover.Start(at(0, 0), facing); got != want {
			t.Errorf("Start facing %d: %+v", facing, got)
		}
	}
}

func TestP8_1Check(t *testing.T) {
	out := api.Mover{Out: 30}
	for _, c := range []struct {
		m    api.Mover
		want api.Errno
	}{
		{fresh(), api.OK}, {out, api.OK}, {api.Mover{}, 80},
		{api.Mover{Health: 1}, api.OK},
		{api.Mover{At: at(bound, -bound), Speed: at(1024, -1024), Push: at(-256, 256), Facing: 15, Health: 100, Energy: 100, Shield: true, Cool: 12, Said: 255}, api.OK},
		{api.Mover{At: at(-bound, bound), Speed: at(-1024, 1024), Push: at(256, -256), Health: 1, Shield: true}, api.OK},
		{api.Mover{At: at(bound, -bound), Facing: 15, Out: 1, Said: 255}, api.OK},
		// Out is asked of what is out, too.
		{api.Mover{Out: 31}, 80}, {api.Mover{Out: -1}, 80}, {api.Mover{Health: 100, Out: -1}, 80}, {api.Mover{Out: math.MaxInt}, 80}, {api.Mover{Out: math.MinInt}, 80},
		{api.Mover{Out: 30, Health: 1}, 80}, {api.Mover{Out: 30, Energy: 1}, 80}, {api.Mover{Out: 30, Cool: 1}, 80}, {api.Mover{Out: 30, Shield: true}, 80},
		{api.Mover{Out: 30, Speed: at(1, 0)}, 80}, {api.Mover{Out: 30, Speed: at(0, -1)}, 80}, {api.Mover{Out: 30, Push: at(-1, 0)}, 80}, {api.Mover{Out: 30, Push: at(0, 1)}, 80},
		{api.Mover{Out: 30, At: at(bound+1, 0)}, 80}, {api.Mover{Out: 30, At: at(0, -bound-1)}, 80}, {api.Mover{Out: 30, Facing: 16}, 80}, {api.Mover{Out: 30, Facing: -1}, 80}, {api.Mover{Out: 30, Said: 256}, 80}, {api.Mover{Out: 30, Said: -1}, 80},
	} {
		if got := mover.Check(c.m); got != c.want {
			t.Errorf("Check(%+v): %d, not %d", c.m, got, c.want)
		}
	}
}

// TestP8_1CheckEachField asks each number at its ends, of a mover in play and of one that is out.
func TestP8_1CheckEachField(t *testing.T) {
	for _, f := range fields() {
		for _, n := range f.around() {
			want := api.Errno(80)
			if n >= f.least && n <= f.most {
				want = api.OK
			}
			m := with(fresh(), func(m *api.Mover) { f.set(m, n) })
			if got := mover.Check(m); got != want {
				t.Errorf("Check in play with %s %d: %d, not %d", f.name, n, got, want)
			}
			if n != 0 && !f.whenOut {
				want = 80
			}
			if n == 0 {
				want = api.OK
			}
			m = with(api.Mover{Out: 30}, func(m *api.Mover) { f.set(m, n) })
			if got := mover.Check(m); got != want {
				t.Errorf("Check out with %s %d: %d, not %d", f.name, n, got, want)
			}
		}
	}
	for out := -40; out <= 40; out++ {
		askCheck(t, api.Mover{Out: out})
		askCheck(t, with(fresh(), func(m *api.Mover) { m.Out = out }))
	}
}

// TestP8_1CheckPairs asks each two numbers at their ends, with each Out and Shield.
func TestP8_1CheckPairs(t *testing.T) {
	all := fields()
	for i, f := range all {
		for _, g := range all[i+1:] {
			for _, n := range f.around() {
				for _, k := range g.around() {
					for _, base := range []api.Mover{{}, {Health: 1}, {Health: 100, Shield: true}, {Out: 1}, {Out: 30, Shield: true}, {Out: 31}, {Out: -1, Health: 1}} {
						askCheck(t, with(base, func(m *api.Mover) { f.set(m, n); g.set(m, k) }))
					}
				}
			}
		}
	}
}

func TestP8_1CheckSome(t *testing.T) {
	r := rand.New(rand.NewSource(81))
	all := fields()
	for range 100000 {
		m := someMover(r)
		if e := mover.Check(m); e != api.OK {
			t.Fatalf("Check(%+v): %d", m, e)
		}
		for range r.Intn(3) {
			f := all[r.Intn(len(all))]
			f.set(&m, f.around()[r.Intn(15)])
		}
		askCheck(t, m)
	}
	for _, m := range spoilt() {
		if e := mover.Check(m); e != 80 {
			t.Errorf("Check(%+v): %d", m, e)
		}
	}
}
