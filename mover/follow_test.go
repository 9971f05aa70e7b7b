package mover_test

import (
	"math/rand"
	"testing"

	"echelon/api"
	"echelon/arena"
	"echelon/geom"
	"echelon/mover"
)

// walk is a mover to which things happen, and the map on which they do.
type walk struct {
	t      *testing.T
	r      *rand.Rand
	a      api.Arena
	m      api.Mover
	orders []api.Order
}

func (w *walk) touches() bool { return arena.Touches(w.a, geom.Around(w.m.At, 1280)) }

// act, glide, hurt and rest take what is answered, if there is no error, and ask of it what P8.6 says.

func (w *walk) act() { // also an order that may not be
	o := w.orders[w.r.Intn(len(w.orders))]
	if w.r.Intn(10) == 0 {
		o.B += w.r.Intn(40) - 20
	}
	was := w.m
	got, done, e := mover.Act(was, o)
	if e != api.OK {
		w.refused(got, done)
		return
	}
	w.m = got
	if !done && got != was {
		w.t.Fatalf("%v, not done, made %+v of %+v", o, got, was)
	}
	w.ask(was, was.Out)
}

func (w *walk) glide() {
	was, touched := w.m, w.touches()
	got, e := mover.Glide(was, w.a)
	if e != api.OK {
		w.t.Fatalf("Glide(%+v): %d", was, e)
	}
	w.m = got
	if !touched && w.touches() {
		w.t.Fatalf("Glide led %+v into a wall: %+v", was, got)
	}
	w.ask(was, was.Out)
}

func (w *walk) hurt() {
	was, harm := w.m, someIn(w.r, -1, 40)
	got, out, e := mover.Hurt(was, harm)
	if e != api.OK {
		w.refused(got, out)
		return
	}
	w.m = got
	if out != (was.Out == 0 && got.Out > 0) {
		w.t.Fatalf("Hurt(%+v, %d): %+v %v", was, harm, got, out)
	}
	if out {
		was.Out = 30
	}
	w.ask(was, was.Out)
}

func (w *walk) rest(to api.Point) bool {
	was := w.m
	got, back, e := mover.Rest(was, to)
	if e != api.OK {
		w.t.Fatalf("Rest(%+v): %d", was, e)
	}
	w.m = got
	if back != (was.Out == 1) || back && got.At != geom.Bound(to) {
		w.t.Fatalf("Rest(%+v, %v): %+v %v", was, to, got, back)
	}
	w.ask(was, max(was.Out-1, 0))
	return back
}

func (w *walk) refused(got api.Mover, told bool) {
	if got != (api.Mover{}) || told {
		w.t.Fatalf("beside an error: %+v %v", got, told)
	}
}

// ask is that the mover may be, is out for so many frames, and is, if so, where it was.
func (w *walk) ask(was api.Mover, out int) {
	if e := mover.Check(w.m); e != api.OK || !meantMayBe(w.m) {
		w.t.Fatalf("%+v became %+v: %d", was, w.m, e)
	}
	if w.m.Out != out || out > 0 && (w.m.At != was.At || w.m.Facing != was.Facing || w.m.Said != was.Said) {
		w.t.Fatalf("%+v became %+v, which is not out for %d", was, w.m, out)
	}
}

// TestP8_6Rows lets rows of things happen to movers that begin at a map's start.
func TestP8_6Rows(t *testing.T) {
	r := rand.New(rand.NewSource(87))
	outs, backs := 0, 0
	for n := range 4 {
		a, _ := arena.Standard(n)
		for _, start := range arena.Starts(a) {
			w := &walk{t: t, r: r, a: a, m: mover.Start(start, r.Intn(100)-50), orders: goodOrders()}
			for range 6000 {
				was := w.m.Out
				switch r.Intn(8) {
				case 0, 1:
					w.act()
				case 2, 3, 4:
					w.glide()
				case 5:
					w.hurt()
				default:
					if w.rest(start) {
						backs++
					}
				}
				if was == 0 && w.m.Out > 0 {
					outs++
				}
				if w.touches() {
					t.Fatalf("on map %d: %+v touches a wall", n, w.m)
				}
			}
		}
	}
	if outs < 100 || backs < 100 {
		t.Errorf("%d went out, %d came back", outs, backs)
	}
}

// TestP8_6Any does each thing to any mover that may be, on any map.
func TestP8_6Any(t *testing.T) {
	r := rand.New(rand.NewSource(88))
	maps, orders := someMaps(), goodOrders()
	for range 50000 {
		m, a := someMover(r), maps[r.Intn(len(maps))]
		for _, do := range []func(w *walk){(*walk).act, (*walk).glide, (*walk).hurt, func(w *walk) { w.rest(at(someIn(r, -bound-9, bound+9), 5)) }} {
			do(&walk{t: t, r: r, a: a, m: m, orders: orders})
		}
	}
}

// TestP8_6Start is that what begins may be, wherever and however it faces.
func TestP8_6Start(t *testing.T) {
	r := rand.New(rand.NewSource(89))
	for range 20000 {
		p, facing := at(int(r.Uint64()>>r.Intn(64)), int(r.Uint64()>>r.Intn(64))), int(r.Uint64()>>r.Intn(64))
		if m := mover.Start(p, facing); mover.Check(m) != api.OK || !meantMayBe(m) {
			t.Fatalf("Start(%v, %d): %+v", p, facing, m)
		}
	}
}

// TestP8_6OutAndBack is that whatever else happens, a mover is out for as many rests as Out says, and where it was.
func TestP8_6OutAndBack(t *testing.T) {
	r := rand.New(rand.NewSource(90))
	start := at(14336, 10240)
	for out := 1; out <= 30; out++ {
		w := &walk{t: t, r: r, a: room(), m: api.Mover{At: at(6144, 7000), Facing: 9, Said: 77, Out: out}, orders: goodOrders()}
		for left := out; left > 0; left-- {
			if w.m != (api.Mover{At: at(6144, 7000), Facing: 9, Said: 77, Out: left}) {
				t.Fatalf("%d of %d rests left: %+v", left, out, w.m)
			}
			for range 5 {
				w.act()
				w.glide()
				w.hurt()
			}
			if back := w.rest(start); back != (left == 1) {
				t.Fatalf("%d of %d rests left: back %v", left, out, back)
			}
		}
		if w.m != (api.Mover{At: start, Facing: 9, Health: 100, Energy: 50, Said: 77}) {
			t.Fatalf("behind %d rests: %+v", out, w.m)
		}
	}
	hurt, out, _ := mover.Hurt(fresh(), 100)
	if !out || hurt.Out != 30 {
		t.Errorf("%+v %v", hurt, out)
	}
}
