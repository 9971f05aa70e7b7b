package clone_test

import (
	"fmt"
	"math"
	"math/rand"
	"reflect"
	"slices"
	"testing"

	"echelon/api"
	"echelon/clone"
	"echelon/digest"
	"echelon/world"
)

func wantSession(t *testing.T, name string, c api.Config) uint64 {
	t.Helper()
	got, e := clone.Session(c)
	if want := digest.Of(meantSession(c)); e != 0 || got != want {
		t.Errorf("%s: Session(%+v): %d %d, not %d", name, c, got, e, want)
	}
	return got
}

func wantDigest(t *testing.T, name string, c api.Config, w api.World) uint64 {
	t.Helper()
	got, e := clone.Digest(c, w)
	if want := digest.Chain(digest.Of(meantSession(c)), digest.Of(meantBody(w))); e != 0 || got != want {
		t.Errorf("%s: Digest(%+v, %+v): %d %d, not %d", name, c, w, got, e, want)
	}
	return got
}

// hall is a map of some rows of free cells between walls, with two starts side by side.
func hall(cols, rows int) api.Arena {
	var signs []byte
	for row := range rows {
		for col := range cols {
			sign := byte('.')
			if row == 0 || row == rows-1 || col == 0 || col == cols-1 {
				sign = '#'
			}
			signs = append(signs, sign)
		}
	}
	signs[cols+1], signs[cols+2] = '1', '2'
	return api.Arena{Cols: cols, Rows: rows, Signs: string(signs)}
}

// manySessions are sessions, no two alike, most of which differ from another one in one thing.
func manySessions(t *testing.T) []api.Config {
	var l []api.Config
	for standard := range 4 {
		for peers := 2; peers <= []int{4, 6, 6, 4}[standard]; peers++ {
			l = append(l, session(peers, standard, 0, 2))
		}
	}
	for _, seed := range []uint64{0, 1, 6, 8, 127, 128, 14, 13, 1 << 32, 1 << 63, 1<<63 + 7, math.MaxUint64} {
		c := two()
		c.Seed = seed
		l = append(l, c)
	}
	for _, lags := range [][]int{{0, 1}, {0, 3}, {0, 47}, {0, 2, 3}, {0, 1, 2}, {0, 1, 2, 3}, {0, 1, 2, 3, 4}, {0, 5, 12, 30, 47}} {
		l = append(l, session(2, 3, lags...))
	}
	for _, a := range []api.Arena{hall(4, 3), hall(4, 4), hall(5, 3), hall(6, 4), hall(4, 6), hall(32, 24), hall(32, 3), hall(12, 8), hall(8, 12)} {
		l = append(l, api.Config{Peers: 2, Seed: 7, Arena: a, Lags: []int{0, 2}})
	}
	c, d := two(), two()
	c.Arena.Signs = changed(c.Arena.Signs, '.', '#')
	d.Arena.Signs = changed(d.Arena.Signs, '*', '.')
	l = append(l, c, d)
	for _, c := range l {
		if e := world.CheckConfig(c); e != 0 {
			t.Fatalf("CheckConfig(%+v): %d", c, e)
		}
	}
	return l
}

// changed is a text with the last sign of a kind made another one.
func changed(text string, from, to byte) string {
	b := []byte(text)
	place := len(b) - 1
	for b[place] != from {
		place--
	}
	b[place] = to
	return string(b)
}

// TestP14_4Written: a session's bytes that are written out here.
func TestP14_4Written(t *testing.T) {
	c := api.Config{Peers: 3, Seed: 300, Arena: api.Arena{Cols: 5, Rows: 3, Signs: "######123######"}, Lags: []int{0, 2, 47}}
	b := plain(t, "06  ac 02  0a 06  0f 23 23 23 23 23 23 31 32 33 23 23 23 23 23 23  03 00 04 5e")
	if got, e := clone.Session(c); e != 0 || got != digest.Of(b) {
		t.Errorf("%d %d, not %d", got, e, digest.Of(b))
	}
}

// TestP14_4Example: the sum that the document's fifth example of the whole tells.
func TestP14_4Example(t *testing.T) {
	c := two()
	w, e := world.Ref(c, 4, []api.Command{
		{Frame: 3, Peer: 0, Seq: 1, Order: api.Order{Verb: api.Fire, A: 1}},
		{Frame: 2, Peer: 1, Seq: 1, Order: api.Order{Verb: api.Steer, A: -3, B: 1}},
	})
	d, f := clone.Digest(c, w)
	if e != 0 || f != 0 || digest.Print(d) != "cf6d41c58a118bb6" {
		t.Errorf("%s %d %d", digest.Print(d), e, f)
	}
}

// TestP14_4Sessions: sessions that differ in one thing have other numbers, and their worlds other sums.
func TestP14_4Sessions(t *testing.T) {
	numbers, sums := map[uint64]api.Config{}, map[uint64]api.Config{}
	for i, c := range manySessions(t) {
		name := fmt.Sprintf("session %d", i)
		n := wantSession(t, name, c)
		d := wantDigest(t, name, c, begun(t, c))
		if other, is := numbers[n]; is {
			t.Errorf("%+v and %+v have the same number", c, other)
		}
		if other, is := sums[d]; is {
			t.Errorf("worlds of %+v and %+v have the same sum", c, other)
		}
		numbers[n], sums[d] = c, c
	}
}

// TestP14_4Worlds: worlds of one session that differ in one thing have other sums.
func TestP14_4Worlds(t *testing.T) {
	for _, c := range []api.Config{two(), six(), spotted()} {
		for name, w := range edges(t, c) {
			wantDigest(t, name, c, w)
		}
		w := busy(t, c)
		first := wantDigest(t, "busy", c, w)
		changes := 0
		eachField(&w, func(name string, field reflect.Value) {
			before := reflect.ValueOf(field.Interface())
			for _, other := range others(field) {
				field.Set(other)
				if world.Check(c, w) != 0 {
					continue
				}
				changes++
				if wantDigest(t, name, c, w) == first {
					t.Errorf("%s: the same sum", name)
				}
			}
			field.Set(before)
		})
		if changes < 60 {
			t.Errorf("only %d changes", changes)
		}
	}
	wantDigest(t, "8 pickups", spotted(), eightLying(t, spotted()))
}

func TestP14_4Some(t *testing.T) {
	r := rand.New(rand.NewSource(147))
	for range 3000 {
		c := someSession(r)
		wantSession(t, "some", c)
		wantDigest(t, "some", c, someWorld(r, c))
	}
}

func wantNoDigest(t *testing.T, name string, c api.Config, w api.World, want api.Errno) {
	t.Helper()
	if d, e := clone.Digest(c, w); e != want || d != 0 {
		t.Errorf("%s: Digest: %d %d, not %d", name, d, e, want)
	}
}

func TestP14_4Spoilt(t *testing.T) {
	for i, c := range spoiltSessions() {
		name := fmt.Sprintf("session %d", i)
		if n, e := clone.Session(c); e != 130 || n != 0 {
			t.Errorf("%s: Session: %d %d", name, n, e)
		}
		wantNoDigest(t, name, c, busy(t, two()), 130)
		wantNoDigest(t, name+", no world", c, api.World{}, 130)
	}
	for _, c := range []api.Config{two(), six(), spotted()} {
		for _, x := range spoils() {
			w := busy(t, c)
			x.do(&w)
			wantNoDigest(t, x.name, c, w, 131)
			wantNoDigest(t, x.name+", and the session too", spoiltSessions()[3], w, 130)
		}
	}
	wantNoDigest(t, "of another session", six(), busy(t, two()), 131)
}

func TestP14_4StayAsTheyWere(t *testing.T) {
	r := rand.New(rand.NewSource(148))
	for range 300 {
		c := someSession(r)
		bare, lean := clone.Session(c)
		c.Lags = roomy(c.Lags, 99)
		w := roomyWorld(someWorld(r, c))
		before, lags := spareWorld(w), spare(c.Lags)
		clone.Digest(c, w)
		n, e := clone.Session(c)
		if !same(spareWorld(w), before) || !slices.Equal(spare(c.Lags), lags) {
			t.Fatalf("%+v has become %+v", before, spareWorld(w))
		}
		if n != bare || e != lean {
			t.Fatalf("the room behind the lags counts: %d %d, not %d %d", n, e, bare, lean)
		}
	}
}
