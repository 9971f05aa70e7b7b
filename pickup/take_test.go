package pickup_test

import (
	"math"
	"math/rand"
	"testing"

	"echelon/api"
	"echelon/mover"
	"echelon/pickup"
)

const bound = 2147483647

// moverWith is a mover in play that is changed; none of its numbers is 0 but Out.
func moverWith(change func(m *api.Mover)) api.Mover {
	m := api.Mover{
		At: api.Point{X: 6144, Y: -77}, Speed: api.Point{X: -300, Y: 1024}, Push: api.Point{X: 32, Y: -256},
		Facing: 5, Health: 40, Energy: 20, Shield: true, Cool: 7, Said: 99,
	}
	change(&m)
	return m
}

// outFor is a mover that is out for some frames.
func outFor(frames int) api.Mover {
	return api.Mover{At: api.Point{X: 9, Y: 8}, Facing: 3, Said: 200, Out: frames}
}

// meantTake is P10.3, word by word, of a mover that may be.
func meantTake(m api.Mover, kind int) (api.Mover, int, api.Errno) {
	if kind < 1 || kind > 3 {
		return api.Mover{}, 0, 1
	}
	if m.Out > 0 {
		return m, 0, api.OK
	}
	if kind == 3 {
		return m, 5, api.OK
	}
	if kind == 1 {
		if m.Health += 30; m.Health > 100 {
			m.Health = 100
		}
		return m, 0, api.OK
	}
	if m.Energy += 40; m.Energy > 100 {
		m.Energy = 100
	}
	return m, 0, api.OK
}

func askTake(t *testing.T, m api.Mover, kind int) {
	t.Helper()
	want, wantPoints, wantErrno := meantTake(m, kind)
	if got, points, e := pickup.Take(m, kind); got != want || points != wantPoints || e != wantErrno {
		t.Errorf("Take(%+v, %d): %+v %d %d, not %+v %d %d", m, kind, got, points, e, want, wantPoints, wantErrno)
	}
}

// someMover is one that may be.
func someMover(r *rand.Rand) api.Mover {
	p := func(most int) api.Point { return api.Point{X: someIn(r, -most, most), Y: someIn(r, -most, most)} }
	m := api.Mover{At: p(bound), Facing: someIn(r, 0, 15), Said: someIn(r, 0, 255)}
	if r.Intn(5) == 0 {
		m.Out = someIn(r, 1, 30)
		return m
	}
	m.Speed, m.Push = p(1024), p(256)
	m.Health, m.Energy, m.Cool, m.Shield = someIn(r, 1, 100), someIn(r, 0, 100), someIn(r, 0, 12), r.Intn(2) == 0
	return m
}

// spoiltMovers are movers that may not be.
func spoiltMovers() []api.Mover {
	l := []api.Mover{
		{}, {Health: 101}, {Health: 1, Energy: 101}, {Health: -1}, {Health: 50, Energy: -1}, {Health: 50, Out: 1}, {Energy: 50, Out: 1}, {Out: 31}, {Out: -1}, {Health: 50, Out: -1},
		{Out: 3, Shield: true}, {Out: 3, Cool: 1}, {Health: math.MaxInt}, {Health: math.MinInt}, {Health: 50, Energy: math.MaxInt}, {Health: 50, Energy: math.MinInt},
		{Health: math.MaxInt - 29}, {Health: 50, Energy: math.MaxInt - 39}, {Out: math.MinInt}, {Out: math.MaxInt},
	}
	for _, n := range []int{math.MinInt, -bound - 1, bound + 1, math.MaxInt} {
		l = append(l,
			moverWith(func(m *api.Mover) { m.At.X = n }), moverWith(func(m *api.Mover) { m.Speed.Y = n }), moverWith(func(m *api.Mover) { m.Push.X = n }),
			moverWith(func(m *api.Mover) { m.Facing = n }), moverWith(func(m *api.Mover) { m.Cool = n }), moverWith(func(m *api.Mover) { m.Said = n }))
	}
	return l
}

func someKinds() []int {
	return []int{math.MinInt, math.MinInt + 1, -1 << 32, -3, -2, -1, 0, 1, 2, 3, 4, 5, 255, 257, 1<<32 + 1, math.MaxInt - 1, math.MaxInt}
}

func TestP10_3Take(t *testing.T) {
	health := func(n int) api.Mover { return moverWith(func(m *api.Mover) { m.Health = n }) }
	energy := func(n int) api.Mover { return moverWith(func(m *api.Mover) { m.Energy = n }) }
	for _, c := range []struct {
		m      api.Mover
		kind   int
		want   api.Mover
		points int
		errno  api.Errno
	}{
		{health(1), 1, health(31), 0, api.OK}, {health(69), 1, health(99), 0, api.OK}, {health(70), 1, health(100), 0, api.OK}, {health(71), 1, health(100), 0, api.OK},
		{health(80), 1, health(100), 0, api.OK}, {health(99), 1, health(100), 0, api.OK}, {health(100), 1, health(100), 0, api.OK},
		{energy(0), 2, energy(40), 0, api.OK}, {energy(59), 2, energy(99), 0, api.OK}, {energy(60), 2, energy(100), 0, api.OK}, {energy(61), 2, energy(100), 0, api.OK},
		{energy(70), 2, energy(100), 0, api.OK}, {energy(99), 2, energy(100), 0, api.OK}, {energy(100), 2, energy(100), 0, api.OK},
		{health(1), 3, health(1), 5, api.OK}, {health(100), 3, health(100), 5, api.OK}, {energy(0), 3, energy(0), 5, api.OK},
		{health(80), 0, api.Mover{}, 0, 1}, {health(80), 4, api.Mover{}, 0, 1}, {health(80), -1, api.Mover{}, 0, 1},
		{health(80), math.MinInt, api.Mover{}, 0, 1}, {health(80), math.MaxInt, api.Mover{}, 0, 1},
		{outFor(1), 1, outFor(1), 0, api.OK}, {outFor(1), 2, outFor(1), 0, api.OK}, {outFor(30), 3, outFor(30), 0, api.OK},
		{outFor(7), 0, api.Mover{}, 0, 1}, {outFor(7), 4, api.Mover{}, 0, 1},
	} {
		if got, points, e := pickup.Take(c.m, c.kind); got != c.want || points != c.points || e != c.errno {
			t.Errorf("Take(%+v, %d): %+v %d %d, not %+v %d %d", c.m, c.kind, got, points, e, c.want, c.points, c.errno)
		}
	}
}

// TestP10_3All has each health with each energy, and movers that are out, with each kind.
func TestP10_3All(t *testing.T) {
	for _, kind := range someKinds() {
		for health := 1; health <= 100; health++ {
			for energy := range 101 {
				askTake(t, api.Mover{Health: health, Energy: energy}, kind)
				askTake(t, moverWith(func(m *api.Mover) { m.Health, m.Energy = health, energy }), kind)
			}
		}
		for frames := 1; frames <= 30; frames++ {
			askTake(t, outFor(frames), kind)
			askTake(t, api.Mover{Out: frames}, kind)
		}
	}
}

func TestP10_3Spoilt(t *testing.T) {
	for _, m := range spoiltMovers() {
		for _, kind := range someKinds() {
			if got, points, e := pickup.Take(m, kind); got != (api.Mover{}) || points != 0 || e != 80 {
				t.Errorf("Take(%+v, %d): %+v %d %d", m, kind, got, points, e)
			}
		}
	}
}

func TestP10_3Some(t *testing.T) {
	r := rand.New(rand.NewSource(103))
	for range 100000 {
		m := someMover(r)
		if e := mover.Check(m); e != api.OK {
			t.Fatalf("%+v may not be: %d", m, e)
		}
		askTake(t, m, someIn(r, 0, 4))
	}
}
