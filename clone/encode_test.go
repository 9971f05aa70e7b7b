package clone_test

import (
	"bytes"
	"encoding/hex"
	"fmt"
	"math"
	"math/rand"
	"slices"
	"strings"
	"testing"

	"echelon/api"
	"echelon/clone"
	"echelon/world"
)

// plain are bytes, of digits to the base sixteen with spaces between.
func plain(t *testing.T, text string) []byte {
	t.Helper()
	b, err := hex.DecodeString(strings.Join(strings.Fields(text), ""))
	if err != nil {
		t.Fatal(err)
	}
	return b
}

func wantEncode(t *testing.T, name string, c api.Config, w api.World) {
	t.Helper()
	got, e := clone.Encode(c, w)
	if want := meantBytes(w); e != 0 || !bytes.Equal(got, want) {
		t.Errorf("%s: Encode(%+v): % x %d, not % x", name, w, got, e, want)
	}
}

// spoiltSessions are sessions that may not be so, each by one thing.
func spoiltSessions() []api.Config {
	var l []api.Config
	for _, peers := range []int{math.MinInt, -1, 0, 1, 5, 7, math.MaxInt} {
		l = append(l, session(peers, 3, 0, 2))
	}
	for _, lags := range [][]int{nil, {}, {0}, {1, 2}, {0, 48}, {0, 2, 2}, {0, 3, 2}, {0, 1, 2, 3, 4, 5}} {
		l = append(l, session(2, 3, lags...))
	}
	c, d, e, f := two(), two(), two(), two()
	c.Arena = api.Arena{}
	d.Arena.Signs = "." + d.Arena.Signs[1:]
	e.Arena.Cols = math.MinInt
	f.Arena.Rows++
	return append(l, c, d, e, f, api.Config{})
}

// spoil is a change by which a busy world may be of no session any more; its movers and scores are as many as they were, unless seats says that they are not.
type spoil struct {
	name  string
	do    func(w *api.World)
	seats bool
}

func spoils() []spoil {
	return []spoil{
		{"a frame below 0", func(w *api.World) { w.Frame = -1 }, false},
		{"the least frame", func(w *api.World) { w.Frame = math.MinInt64 }, false},
		{"a frame too great", func(w *api.World) { w.Frame = mostFrame + 1 }, false},
		{"the greatest frame", func(w *api.World) { w.Frame = math.MaxInt64 }, false},
		{"no next number", func(w *api.World) { w.NextNo = 0 }, false},
		{"a next number that is there", func(w *api.World) { w.NextNo = 70 }, false},
		{"a next number too great", func(w *api.World) { w.NextNo = mostNo + 2 }, false},
		{"the least next number", func(w *api.World) { w.NextNo = math.MinInt }, false},
		{"a mover beyond the bounds", func(w *api.World) { w.Movers[0].At.X = bound + 1 }, false},
		{"a mover of great numbers", func(w *api.World) { w.Movers[0].At = at(math.MinInt, math.MaxInt) }, false},
		{"a mover without health", func(w *api.World) { w.Movers[0].Health = 0 }, false},
		{"one that is out, with a shield", func(w *api.World) { w.Movers[1].Shield = true }, false},
		{"movers of noughts", func(w *api.World) { clear(w.Movers) }, false},
		{"a score beyond the bounds", func(w *api.World) { w.Scores[1].Points = -bound - 1 }, false},
		{"a score below 0", func(w *api.World) { w.Scores[0].Streak = -1 }, false},
		{"a shot of nobody", func(w *api.World) { w.Shots[0].Owner = len(w.Movers) }, false},
		{"a shot of noughts", func(w *api.World) { w.Shots[0] = api.Shot{} }, false},
		{"shots that fall", func(w *api.World) { slices.Reverse(w.Shots) }, false},
		{"49 shots", func(w *api.World) { w.Shots, w.NextNo = fliers(49, 1), 100 }, false},
		{"5000 shots", func(w *api.World) { w.Shots, w.NextNo = fliers(5000, 1), 6000 }, false},
		{"a pickup without a spot", func(w *api.World) { w.Pickups[0].Spot = 16 }, false},
		{"pickups at one spot", func(w *api.World) { w.Pickups[0].Spot = 0 }, false},
		{"a pickup of no kind", func(w *api.World) { w.Pickups[1].Kind = 4 }, false},
		{"pickups that fall", func(w *api.World) { slices.Reverse(w.Pickups) }, false},
		{"300 pickups", func(w *api.World) { w.Pickups = make([]api.Pickup, 300) }, false},
		{"no movers", func(w *api.World) { w.Movers = nil }, true},
		{"a mover less", func(w *api.World) { w.Movers = w.Movers[1:] }, true},
		{"a mover more", func(w *api.World) { w.Movers = append(w.Movers, w.Movers[0]) }, true},
		{"no scores", func(w *api.World) { w.Scores = nil }, true},
		{"a score less", func(w *api.World) { w.Scores = w.Scores[1:] }, true},
		{"a score more", func(w *api.World) { w.Scores = append(w.Scores, api.Score{}) }, true},
		{"one less of both", func(w *api.World) { w.Movers, w.Scores = w.Movers[1:], w.Scores[1:] }, true},
		{"one more of both", func(w *api.World) { w.Movers, w.Scores = append(w.Movers, w.Movers[0]), append(w.Scores, api.Score{}) }, true},
		{"nothing", func(w *api.World) { *w = api.World{} }, true},
	}
}

// TestP14_2Written: bytes that are written out here, as the chapter says them.
func TestP14_2Written(t *testing.T) {
	c := two()
	w := begun(t, c)
	first := "80 60 80 60 00 00 00 00 00 c8 01 64 00 00 00 00"
	second := "80 a0 03 80 60 00 00 00 00 08 c8 01 64 00 00 00 00"
	got, e := clone.Encode(c, w)
	want := plain(t, "57 00 "+first+second+"00 00 00 00  00 00 00 00  00  00  02")
	if e != 0 || len(got) != len(want)+8 || !bytes.HasPrefix(got, want) {
		t.Errorf("% x %d, not % x", got, e, want)
	}

	w = busy(t, c)
	got, e = clone.Encode(c, w)
	want = plain(t, "57 d0 0f"+
		"b1 6d b4 6d d5 0f d8 0f 9a 03 9b 03 0e b0 01 76 14 00 a6 03 01"+
		"d0 8c 01 d2 8c 01 00 00 00 00 06 00 00 00 22 90 03 00"+
		"ff 07 f2 04 ac 03 e6 01"+
		"88 08 fa 04 b4 03 ee 01"+
		"02"+
		"0a 02 06 f8 8c 01 ea bb 01 e3 17 9e 16 30"+
		"8c 01 00 04 81 8d 01 f3 bb 01 ee 17 a7 16 4e"+
		"02"+
		"3c 02 04"+
		"88 01 00 06"+
		"8e 01")
	if e != 0 || len(got) != len(want)+8 || !bytes.HasPrefix(got, want) {
		t.Errorf("% x %d, not % x", got, e, want)
	}
	if !bytes.Equal(got, sealed(want)) {
		t.Errorf("% x has not the sum of % x", got, want)
	}
}

// edges are worlds at the edges of what may be.
func edges(t *testing.T, c api.Config) map[string]api.World {
	l := map[string]api.World{"begun": begun(t, c), "busy": busy(t, c)}
	for name, do := range map[string]func(w *api.World){
		"frame 0":              func(w *api.World) { w.Frame = 0 },
		"the last frame":       func(w *api.World) { w.Frame = mostFrame },
		"the last number":      func(w *api.World) { w.NextNo = mostNo + 1 },
		"no shots, no pickups": func(w *api.World) { w.Shots, w.Pickups = nil, nil },
		"empty lists":          func(w *api.World) { w.Shots, w.Pickups = []api.Shot{}, []api.Pickup{} },
		"no shots":             func(w *api.World) { w.Shots = nil },
		"no pickups":           func(w *api.World) { w.Pickups = nil },
		"one shot":             func(w *api.World) { w.Shots = w.Shots[:1] },
		"48 shots":             func(w *api.World) { w.Shots = fliers(48, 20) },
		"48 shots, no pickups": func(w *api.World) { w.Shots, w.Pickups = fliers(48, 20), nil },
		"far down":             func(w *api.World) { w.Movers[0].At, w.Shots[0].At = at(-bound, bound), at(bound, -bound) },
		"fast":                 func(w *api.World) { w.Movers[0].Speed, w.Shots[0].Speed = at(-1024, 1024), at(1536, -1536) },
		"pushed":               func(w *api.World) { w.Movers[0].Push = at(-256, 256) },
		"small ways":           func(w *api.World) { w.Movers[0].Speed, w.Movers[0].Push = at(-1, 1), at(-64, 64) },
		"full": func(w *api.World) {
			w.Movers[0] = api.Mover{Facing: 15, Health: 100, Energy: 100, Shield: true, Cool: 12, Said: 255}
		},
		"great scores":   func(w *api.World) { w.Scores[0] = api.Score{Points: bound, Hits: bound, Outs: bound, Streak: bound} },
		"points below 0": func(w *api.World) { w.Scores[0].Points, w.Scores[1].Points = -bound, -1 },
		"great numbers":  func(w *api.World) { w.Shots[1].No, w.Pickups[1].No, w.NextNo = mostNo, mostNo, mostNo+1 },
		"all shields": func(w *api.World) {
			for i := range w.Movers {
				w.Movers[i] = api.Mover{Health: 1, Shield: true}
			}
		},
	} {
		w := busy(t, c)
		do(&w)
		l[name] = w
	}
	return l
}

// eightLying is a world with as many pickups as there may be.
func eightLying(t *testing.T, c api.Config) api.World {
	w := busy(t, c)
	w.Pickups = nil
	for i := range 8 {
		w.Pickups = append(w.Pickups, api.Pickup{No: 60 + i, Spot: (i + 3) % 8, Kind: 1 + i%3})
	}
	return w
}

func TestP14_2Edges(t *testing.T) {
	for _, c := range []api.Config{two(), six(), spotted()} {
		for name, w := range edges(t, c) {
			wantEncode(t, name, c, w)
		}
	}
	wantEncode(t, "8 pickups", spotted(), eightLying(t, spotted()))
	w := eightLying(t, spotted())
	w.Shots = fliers(48, 1)
	wantEncode(t, "8 pickups, 48 shots", spotted(), w)
}

func TestP14_2Some(t *testing.T) {
	r := rand.New(rand.NewSource(142))
	for range 5000 {
		c := someSession(r)
		wantEncode(t, "some", c, someWorld(r, c))
	}
}

// TestP14_2Lags: of a session the bytes tell nothing but how many seats there are.
func TestP14_2Lags(t *testing.T) {
	c, d := session(4, 0, 0, 2), session(4, 2, 0, 1, 47)
	d.Seed = 99
	w := busy(t, c)
	wantEncode(t, "one", c, w)
	wantEncode(t, "the other", d, w)
}

func wantNoEncode(t *testing.T, name string, c api.Config, w api.World, want api.Errno) {
	t.Helper()
	b, e := clone.Encode(c, w)
	if e != want || len(b) > 0 {
		t.Errorf("%s: Encode: % x %d, not %d", name, b, e, want)
	}
	if e := world.Check(c, w); e != want {
		t.Errorf("%s: Check: %d, not %d", name, e, want)
	}
}

func TestP14_2Spoilt(t *testing.T) {
	for i, c := range spoiltSessions() {
		wantNoEncode(t, fmt.Sprintf("session %d", i), c, busy(t, two()), 130)
		wantNoEncode(t, fmt.Sprintf("session %d, no world", i), c, api.World{}, 130)
	}
	for _, c := range []api.Config{two(), six(), spotted()} {
		for _, x := range spoils() {
			w := busy(t, c)
			x.do(&w)
			wantNoEncode(t, x.name, c, w, 131)
			wantNoEncode(t, x.name+", and the session too", spoiltSessions()[0], w, 130)
		}
	}
	wantNoEncode(t, "of another session", six(), busy(t, two()), 131)
	wantNoEncode(t, "of fewer", two(), busy(t, six()), 131)
}

// TestP14_2StayAsTheyWere: what is handed in is neither changed nor kept, and an answer is new memory.
func TestP14_2StayAsTheyWere(t *testing.T) {
	r := rand.New(rand.NewSource(143))
	for range 500 {
		c := someSession(r)
		w := roomyWorld(someWorld(r, c))
		c.Lags = roomy(c.Lags, 99)
		before, lags := spareWorld(w), spare(c.Lags)
		got, _ := clone.Encode(c, w)
		other, _ := clone.Encode(c, w)
		if !same(spareWorld(w), before) || !slices.Equal(spare(c.Lags), lags) {
			t.Fatalf("%+v has become %+v", before, spareWorld(w))
		}
		want := meantBytes(w)
		wipe(other)
		wipeWorld(w)
		wipe(c.Lags)
		if !bytes.Equal(got, want) {
			t.Fatalf("% x has become % x", want, got)
		}
	}
}
