package mover_test

import (
	"math"
	"math/rand"
	"strings"
	"testing"

	"echelon/api"
	"echelon/arena"
	"echelon/mover"
)

// room is standard map 3: a mover there is free with X from 5376 to 27391 and Y from 5376 to 19199.
func room() api.Arena {
	a, _ := arena.Standard(3)
	return a
}

// meantDriven is a speed ahead of the move: 7/8 of it, without the rest, and the push, within the greatest speed.
func meantDriven(speed, push int) int {
	size, sign := speed, 1
	if speed < 0 {
		size, sign = -speed, -1
	}
	size = (size*7 - size*7%8) / 8
	speed = sign*size + push
	if speed > 1024 {
		return 1024
	}
	if speed < -1024 {
		return -1024
	}
	return speed
}

// meantBounced is minus half of a speed, without the rest.
func meantBounced(speed int) int {
	if speed < 0 {
		return -speed >> 1
	}
	return -(speed >> 1)
}

// meantGlide is P8.3.
func meantGlide(m api.Mover, a api.Arena) (api.Mover, api.Errno) {
	if !meantMayBe(m) {
		return api.Mover{}, 80
	}
	if m.Out > 0 {
		return m, api.OK
	}
	m.Speed = at(meantDriven(m.Speed.X, m.Push.X), meantDriven(m.Speed.Y, m.Push.Y))
	to, stopped := arena.Slide(a, m.At, m.Speed, 1280)
	m.At = to
	if stopped == 1 || stopped == 3 {
		m.Speed.X = meantBounced(m.Speed.X)
	}
	if stopped == 2 || stopped == 3 {
		m.Speed.Y = meantBounced(m.Speed.Y)
	}
	return m, api.OK
}

func askGlide(t *testing.T, m api.Mover, a api.Arena) {
	t.Helper()
	want, wantErrno := meantGlide(m, a)
	if got, e := mover.Glide(m, a); got != want || e != wantErrno {
		t.Errorf("Glide(%+v, %d columns, %d rows, %.100q): %+v %d, not %+v %d", m, a.Cols, a.Rows, a.Signs, got, e, want, wantErrno)
	}
}

// someMaps are maps of any kind, also ones that may not be.
func someMaps() []api.Arena {
	var l []api.Arena
	for n := range 4 {
		a, _ := arena.Standard(n)
		l = append(l, a)
	}
	return append(l, api.Arena{}, api.Arena{Cols: 10, Rows: 10}, api.Arena{Cols: 10, Rows: 10, Signs: strings.Repeat(".", 57)}, api.Arena{Cols: 10, Rows: 10, Signs: strings.Repeat(".#.x", 25)},
		api.Arena{Cols: -1, Rows: -1, Signs: "...."}, api.Arena{Cols: 1, Rows: math.MaxInt, Signs: "........"}, api.Arena{Cols: math.MaxInt, Rows: 1, Signs: "........"}, api.Arena{Cols: math.MaxInt, Rows: math.MaxInt, Signs: "...."},
		api.Arena{Cols: math.MinInt, Rows: math.MinInt}, api.Arena{Cols: 1, Rows: 1, Signs: "."}, api.Arena{Cols: 3, Rows: 3, Signs: "\xff\xff\xff\xff\xff\xff\xff\xff\xff"}, api.Arena{Cols: 10, Rows: 10, Signs: strings.Repeat("#", 100)})
}

func TestP8_3Glide(t *testing.T) {
	for _, c := range []struct {
		name              string
		at, speed, push   api.Point
		wantAt, wantSpeed api.Point
	}{
		{"the chapter's", at(14336, 14336), at(1024, -9), at(256, 0), at(15360, 14329), at(1024, -7)},
		{"at rest", at(14336, 14336), at(0, 0), at(0, 0), at(14336, 14336), at(0, 0)},
		{"no rest", at(14336, 14336), at(8, -16), at(0, 0), at(14343, 14322), at(7, -14)},
		{"a rest, both ways", at(14336, 14336), at(15, -15), at(0, 0), at(14349, 14323), at(13, -13)},
		{"a speed that ends", at(14336, 14336), at(1, -1), at(0, 0), at(14336, 14336), at(0, 0)},
		{"only pushed", at(14336, 14336), at(0, 0), at(32, -256), at(14368, 14080), at(32, -256)},
		{"push against the speed", at(14336, 14336), at(100, -100), at(-256, 256), at(14167, 14505), at(-169, 169)},
		{"at the greatest", at(14336, 14336), at(1024, -1024), at(128, -128), at(15360, 13312), at(1024, -1024)},
		{"one above", at(14336, 14336), at(1024, -1024), at(129, -129), at(15360, 13312), at(1024, -1024)},
		{"one below", at(14336, 14336), at(1024, -1024), at(127, -127), at(15359, 13313), at(1023, -1023)},
		{"the greatest push", at(14336, 14336), at(-1024, 1024), at(-256, 256), at(13312, 15360), at(-1024, 1024)},

		{"a wall at the left", at(5376, 10240), at(-801, 0), at(0, 0), at(5376, 10240), at(350, 0)},
		{"100 from it", at(5476, 10240), at(-800, 0), at(0, 0), at(5376, 10240), at(350, 0)},
		{"up to it", at(6076, 10240), at(-800, 0), at(0, 0), at(5376, 10240), at(-700, 0)},
		{"one too many", at(6075, 10240), at(-800, 0), at(0, 0), at(5376, 10240), at(350, 0)},
		{"a wall at the right", at(27391, 10240), at(801, 0), at(0, 0), at(27391, 10240), at(-350, 0)},
		{"up to it", at(26691, 10240), at(800, 0), at(0, 0), at(27391, 10240), at(700, 0)},
		{"one too many", at(26692, 10240), at(800, 0), at(0, 0), at(27391, 10240), at(-350, 0)},
		{"a wall above", at(10240, 5376), at(0, -801), at(0, 0), at(10240, 5376), at(0, 350)},
		{"up to it", at(10240, 6076), at(0, -800), at(0, 0), at(10240, 5376), at(0, -700)},
		{"a wall below", at(10240, 19199), at(0, 801), at(0, 0), at(10240, 19199), at(0, -350)},
		{"one too many", at(10240, 18500), at(0, 800), at(0, 0), at(10240, 19199), at(0, -350)},
		{"a wall at both", at(5376, 5376), at(-24, -40), at(0, 0), at(5376, 5376), at(10, 17)},
		{"the other corner", at(27391, 19199), at(24, 40), at(0, 0), at(27391, 19199), at(-10, -17)},
		{"along the wall", at(5376, 10240), at(-24, 40), at(0, 0), at(5376, 10275), at(10, 35)},
		{"along the other one", at(10240, 5376), at(40, -24), at(0, 0), at(10275, 5376), at(35, 10)},
		{"half of 1 is none", at(5376, 10240), at(-2, 0), at(0, 0), at(5376, 10240), at(0, 0)},
		{"pushed into it", at(5376, 10240), at(0, 0), at(-256, 0), at(5376, 10240), at(128, 0)},
		{"at the wall, away from it", at(5376, 10240), at(80, 0), at(0, 0), at(5446, 10240), at(70, 0)},
		{"at the wall, at rest", at(5376, 5376), at(0, 0), at(0, 0), at(5376, 5376), at(0, 0)},
	} {
		m := api.Mover{At: c.at, Speed: c.speed, Push: c.push, Facing: 3, Health: 4, Energy: 5, Shield: true, Cool: 6, Said: 7}
		want := with(m, func(m *api.Mover) { m.At, m.Speed = c.wantAt, c.wantSpeed })
		if got, e := mover.Glide(m, room()); got != want || e != api.OK {
			t.Errorf("%s: %+v %d, not %+v", c.name, got, e, want)
		}
	}
}

// TestP8_3GlideEmpty is that all is wall where no map is.
func TestP8_3GlideEmpty(t *testing.T) {
	m := api.Mover{At: at(100, -200), Speed: at(-1024, 9), Health: 1}
	want := api.Mover{At: at(100, -200), Speed: at(448, -3), Health: 1}
	for _, a := range []api.Arena{{}, {Cols: 10, Rows: 10}, {Signs: "...."}, {Cols: -3, Rows: -3, Signs: "........."}} {
		if got, e := mover.Glide(m, a); got != want || e != api.OK {
			t.Errorf("Glide in %v: %+v %d, not %+v", a, got, e, want)
		}
	}
}

// TestP8_3GlideSpeeds asks each speed with pushes at their edges, in the open, at a wall and amid one.
func TestP8_3GlideSpeeds(t *testing.T) {
	pushes := []int{-256, -255, -129, -128, -127, -1, 0, 1, 127, 128, 129, 255, 256}
	for speed := -1024; speed <= 1024; speed++ {
		for _, push := range pushes {
			for _, from := range []api.Point{at(14336, 12288), at(5376, 12288), at(27391, 12288), at(14336, 5376), at(14336, 19199), at(0, 0)} {
				askGlide(t, api.Mover{At: from, Speed: at(speed, -speed), Push: at(push, push), Health: 1}, room())
			}
		}
	}
}

func TestP8_3GlideSome(t *testing.T) {
	r := rand.New(rand.NewSource(84))
	maps := someMaps()
	for range 60000 {
		askGlide(t, someMover(r), maps[r.Intn(len(maps))])
	}
}

func TestP8_3GlideOut(t *testing.T) {
	for _, a := range someMaps() {
		for _, m := range []api.Mover{{Out: 1}, {Out: 30, At: at(6144, 6144), Facing: 5, Said: 6}, {Out: 7, At: at(bound, -bound)}} {
			if got, e := mover.Glide(m, a); got != m || e != api.OK {
				t.Errorf("Glide(%+v): %+v %d", m, got, e)
			}
		}
	}
}

func TestP8_3GlideWrong(t *testing.T) {
	for _, m := range spoilt() {
		for _, a := range []api.Arena{room(), {}} {
			if got, e := mover.Glide(m, a); got != (api.Mover{}) || e != 80 {
				t.Errorf("Glide(%+v): %+v %d", m, got, e)
			}
		}
	}
}
