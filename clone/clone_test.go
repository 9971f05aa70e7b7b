package clone_test

import (
	"fmt"
	"math"
	"reflect"
	"slices"
	"testing"

	"echelon/api"
	"echelon/arena"
	"echelon/clone"
	"echelon/world"
)

const (
	mostFrame = 1099511627776
	mostNo    = 1099511627776
	bound     = 2147483647
)

func at(x, y int) api.Point { return api.Point{X: x, Y: y} }

// session is one on a standard map.
func session(peers, standard int, lags ...int) api.Config {
	a, _ := arena.Standard(standard)
	return api.Config{Peers: peers, Seed: 7, Arena: a, Lags: lags}
}

// two is the session of the document's examples, six one with as many peers as there may be, spotted one with eight spots.
func two() api.Config { return session(2, 3, 0, 2) }

func six() api.Config { return session(6, 1, 0, 1, 5, 12, 47) }

func spotted() api.Config { return session(3, 0, 0, 4, 9) }

// begun is the world that world.New answers.
func begun(t *testing.T, c api.Config) api.World {
	t.Helper()
	w, e := world.New(c)
	if e != 0 {
		t.Fatalf("New(%+v): %d", c, e)
	}
	return w
}

// busy is a world in which there is something of everything, no two numbers of which are alike.
func busy(t *testing.T, c api.Config) api.World {
	t.Helper()
	w := begun(t, c)
	w.Frame = 1000
	w.Movers[0] = api.Mover{At: at(-7001, 7002), Speed: at(-1003, 1004), Push: at(205, -206), Facing: 7, Health: 88, Energy: 59, Shield: true, Cool: 10, Said: 211}
	w.Movers[1] = api.Mover{At: at(9000, 9001), Facing: 3, Out: 17, Said: 200}
	w.Scores[0] = api.Score{Points: -512, Hits: 313, Outs: 214, Streak: 115}
	w.Scores[1] = api.Score{Points: 516, Hits: 317, Outs: 218, Streak: 119}
	w.Shots = []api.Shot{
		{No: 5, Owner: 1, Power: 3, At: at(9020, 12021), Speed: at(-1522, 1423), Left: 24},
		{No: 70, Owner: 0, Power: 2, At: at(-9025, -12026), Speed: at(1527, -1428), Left: 39},
	}
	w.Pickups = []api.Pickup{{No: 30, Spot: 1, Kind: 2}, {No: 68, Spot: 0, Kind: 3}}
	w.NextNo = 71
	return w
}

// fliers are n shots, whose numbers are from no on.
func fliers(n, no int) []api.Shot {
	var l []api.Shot
	for i := range n {
		l = append(l, api.Shot{No: no + i, Owner: i % 2, Power: 1 + i%3, At: at(9000+i, 9000-i), Speed: at(i, -i), Left: 1 + i%40})
	}
	return l
}

// same tells whether two worlds are alike; nil and empty lists are the same.
func same(a, b api.World) bool {
	return a.Frame == b.Frame && a.NextNo == b.NextNo &&
		slices.Equal(a.Movers, b.Movers) && slices.Equal(a.Scores, b.Scores) &&
		slices.Equal(a.Shots, b.Shots) && slices.Equal(a.Pickups, b.Pickups)
}

// apart is a world that shares nothing with another one.
func apart(w api.World) api.World {
	w.Movers, w.Scores = slices.Clone(w.Movers), slices.Clone(w.Scores)
	w.Shots, w.Pickups = slices.Clone(w.Shots), slices.Clone(w.Pickups)
	return w
}

// roomy is a list with things behind its end.
func roomy[T any](l []T, behind T) []T {
	n := len(l)
	l = append(slices.Clone(l), behind, behind, behind)
	return l[:n]
}

func roomyWorld(w api.World) api.World {
	w.Movers, w.Scores = roomy(w.Movers, api.Mover{Health: 77}), roomy(w.Scores, api.Score{Hits: 77})
	w.Shots, w.Pickups = roomy(w.Shots, api.Shot{No: 77}), roomy(w.Pickups, api.Pickup{No: 77})
	return w
}

// spare is a list with what stands in the room behind its end.
func spare[T any](l []T) []T { return slices.Clone(l[:cap(l)]) }

// spareWorld is a world's lists with what stands in the room behind their ends.
func spareWorld(w api.World) api.World {
	w.Movers, w.Scores = spare(w.Movers), spare(w.Scores)
	w.Shots, w.Pickups = spare(w.Shots), spare(w.Pickups)
	return w
}

// wipe writes over a list and the room behind its end.
func wipe[T any](l []T) { clear(l[:cap(l)]) }

func wipeWorld(w api.World) {
	wipe(w.Movers)
	wipe(w.Scores)
	wipe(w.Shots)
	wipe(w.Pickups)
}

// eachField tells of each number and each yes or no of a world, wherever it stands.
func eachField(w *api.World, tell func(name string, field reflect.Value)) {
	var walk func(name string, v reflect.Value)
	walk = func(name string, v reflect.Value) {
		switch v.Kind() {
		case reflect.Struct:
			for i := range v.NumField() {
				walk(name+"."+v.Type().Field(i).Name, v.Field(i))
			}
		case reflect.Slice:
			for i := range v.Len() {
				walk(fmt.Sprintf("%s[%d]", name, i), v.Index(i))
			}
		default:
			tell(name, v)
		}
	}
	walk("", reflect.ValueOf(w).Elem())
}

// others are what else may stand in a field.
func others(field reflect.Value) []reflect.Value {
	if field.Kind() == reflect.Bool {
		return []reflect.Value{reflect.ValueOf(!field.Bool())}
	}
	var l []reflect.Value
	n := field.Int()
	for _, x := range []int64{n + 1, n - 1, -n - 1, n ^ 1<<32, n ^ math.MinInt64, math.MinInt64, math.MaxInt64} {
		if x != n {
			l = append(l, reflect.ValueOf(x).Convert(field.Type()))
		}
	}
	return l
}

// anyWorlds are worlds, no two alike, most of which may not be of any session.
func anyWorlds(t *testing.T) []api.World {
	w := busy(t, two())
	l := []api.World{
		{}, {Frame: 1}, {Frame: -1}, {NextNo: 1}, {NextNo: math.MinInt}, {Frame: math.MinInt64, NextNo: math.MaxInt},
		{Movers: make([]api.Mover, 1)}, {Movers: make([]api.Mover, 2)}, {Movers: make([]api.Mover, 9)},
		{Scores: make([]api.Score, 1)}, {Scores: make([]api.Score, 2)}, {Scores: make([]api.Score, 9)},
		{Shots: make([]api.Shot, 1)}, {Shots: make([]api.Shot, 2)}, {Shots: make([]api.Shot, 300)},
		{Pickups: make([]api.Pickup, 1)}, {Pickups: make([]api.Pickup, 2)}, {Pickups: make([]api.Pickup, 300)},
		{Movers: make([]api.Mover, 1), Scores: make([]api.Score, 2), Shots: make([]api.Shot, 3), Pickups: make([]api.Pickup, 4)},
		begun(t, two()), begun(t, six()), w, busy(t, six()), busy(t, spotted()),
	}
	for _, do := range []func(w *api.World){
		func(w *api.World) { w.Movers = nil },
		func(w *api.World) { w.Movers = w.Movers[:1] },
		func(w *api.World) { w.Movers = w.Movers[1:] },
		func(w *api.World) { w.Movers = append(w.Movers, w.Movers[1]) },
		func(w *api.World) { slices.Reverse(w.Movers) },
		func(w *api.World) { w.Scores = nil },
		func(w *api.World) { w.Scores = w.Scores[:1] },
		func(w *api.World) { w.Scores = append(w.Scores, w.Scores[1]) },
		func(w *api.World) { slices.Reverse(w.Scores) },
		func(w *api.World) { w.Shots = nil },
		func(w *api.World) { w.Shots = w.Shots[:1] },
		func(w *api.World) { w.Shots = append(w.Shots, api.Shot{}) },
		func(w *api.World) { slices.Reverse(w.Shots) },
		func(w *api.World) { w.Pickups = nil },
		func(w *api.World) { w.Pickups = w.Pickups[:1] },
		func(w *api.World) { w.Pickups = append(w.Pickups, api.Pickup{}) },
		func(w *api.World) { slices.Reverse(w.Pickups) },
	} {
		x := apart(w)
		do(&x)
		l = append(l, x)
	}
	return l
}

func wantSame(t *testing.T, name string, a, b api.World, want bool) {
	t.Helper()
	if clone.Same(a, b) != want || clone.Same(b, a) != want {
		t.Errorf("%s: Same(%+v, %+v) is not %v", name, a, b, want)
	}
}

func TestP14_1Copy(t *testing.T) {
	for _, w := range anyWorlds(t) {
		before := apart(w)
		got := clone.Copy(w)
		if !same(got, before) || !same(w, before) {
			t.Errorf("Copy(%+v): %+v", before, got)
		}
	}
}

// TestP14_1CopyFields: each field is copied, whatever stands in it.
func TestP14_1CopyFields(t *testing.T) {
	w := busy(t, two())
	eachField(&w, func(name string, field reflect.Value) {
		before := reflect.ValueOf(field.Interface())
		for _, other := range others(field) {
			field.Set(other)
			if got := clone.Copy(w); !same(got, w) {
				t.Errorf("%s %v: Copy(%+v): %+v", name, other, w, got)
			}
		}
		field.Set(before)
	})
}

// TestP14_1NewMemory: a copy shares nothing with the world, nor with another copy, not even the room behind a list's end; what is handed in stays.
func TestP14_1NewMemory(t *testing.T) {
	for _, w := range anyWorlds(t) {
		w = roomyWorld(w)
		before, want := spareWorld(w), apart(w)
		got, other := clone.Copy(w), clone.Copy(w)
		if !same(spareWorld(w), before) {
			t.Fatalf("%+v has become %+v", before, spareWorld(w))
		}
		wipeWorld(other)
		if !same(spareWorld(w), before) || !same(got, want) {
			t.Fatalf("a copy is wiped: %+v and %+v are not %+v", w, got, want)
		}
		wipeWorld(w)
		if !same(got, want) {
			t.Fatalf("the world is wiped: %+v, not %+v", got, want)
		}
	}
}

// TestP14_1Append: what is put behind a copy's lists is not seen behind the other's.
func TestP14_1Append(t *testing.T) {
	w := roomyWorld(busy(t, two()))
	got := clone.Copy(w)
	_ = append(w.Movers, api.Mover{Said: 1})
	_ = append(w.Shots, api.Shot{No: 1})
	x := append(got.Movers, api.Mover{Said: 2})
	y := append(got.Shots, api.Shot{No: 2})
	_ = append(w.Movers, api.Mover{Said: 3})
	_ = append(w.Shots, api.Shot{No: 3})
	if x[2].Said != 2 || y[2].No != 2 || w.Movers[:3][2].Said != 3 || w.Shots[:3][2].No != 3 {
		t.Errorf("%+v %+v", x, y)
	}
}

func TestP14_1SameOfAny(t *testing.T) {
	worlds := anyWorlds(t)
	for i, a := range worlds {
		for j, b := range worlds {
			wantSame(t, fmt.Sprintf("%d and %d", i, j), a, roomyWorld(b), i == j)
		}
	}
}

// TestP14_1SameFields: each field is asked, whatever stands in it.
func TestP14_1SameFields(t *testing.T) {
	for _, c := range []api.Config{two(), six()} {
		a, b := busy(t, c), busy(t, c)
		wantSame(t, "both busy", a, b, true)
		fields := 0
		eachField(&b, func(name string, field reflect.Value) {
			before := reflect.ValueOf(field.Interface())
			for _, other := range others(field) {
				field.Set(other)
				wantSame(t, name, a, b, false)
				wantSame(t, name, b, apart(b), true)
			}
			field.Set(before)
			fields++
		})
		if want := 2 + 17*c.Peers + 2*8 + 2*3; fields != want {
			t.Errorf("%d fields, not %d", fields, want)
		}
	}
}

func TestP14_1NoneAndEmpty(t *testing.T) {
	none := api.World{Frame: 3, NextNo: 4}
	empty := api.World{Frame: 3, NextNo: 4, Movers: []api.Mover{}, Scores: []api.Score{}, Shots: []api.Shot{}, Pickups: []api.Pickup{}}
	roomy := roomyWorld(none)
	for _, a := range []api.World{none, empty, roomy} {
		for _, b := range []api.World{none, empty, roomy} {
			wantSame(t, "none and empty", a, b, true)
			wantSame(t, "none and empty", clone.Copy(a), b, true)
		}
	}
}
