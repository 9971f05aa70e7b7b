package world_test

import (
	"fmt"
	"math"
	"math/rand"
	"slices"
	"testing"

	"echelon/api"
	"echelon/arena"
	"echelon/mover"
	"echelon/pickup"
	"echelon/score"
	"echelon/shot"
	"echelon/world"
)

const (
	mostFrame = 1099511627776
	mostNo    = 1099511627776
	bound     = 2147483647
)

func at(x, y int) api.Point { return api.Point{X: x, Y: y} }

// session is one on a standard map.
func session(peers, standard int, lags ...int) api.Config {
	a, _ := arena.Standard(standard)
	return api.Config{Peers: peers, Seed: 7, Arena: a, Lags: lags}
}

// two is the session of the document's examples, six one with as much as there may be.
func two() api.Config { return session(2, 3, 0, 2) }

func six() api.Config { return session(6, 1, 0, 1, 5, 12, 47) }

// begun is the world that New answers.
func begun(t *testing.T, c api.Config) api.World {
	t.Helper()
	w, e := world.New(c)
	if e != api.OK {
		t.Fatalf("New(%+v): %d", c, e)
	}
	return w
}

// busy is a world in which there is something of everything.
func busy(t *testing.T, c api.Config) api.World {
	t.Helper()
	w := begun(t, c)
	w.Frame = 1000
	w.Movers[1] = api.Mover{At: at(9000, 9000), Facing: 3, Out: 17, Said: 200}
	w.Scores[0] = api.Score{Points: -5, Hits: 3, Outs: 2, Streak: 1}
	w.Shots = []api.Shot{flier(5, 0, 9000, 12000), flier(9, c.Peers-1, 10000, 12000), flier(70, 1, 11000, 12000)}
	w.Pickups = []api.Pickup{{No: 3, Spot: 1, Kind: 2}, {No: 8, Spot: 0, Kind: 3}}
	w.NextNo = 71
	return w
}

// flier is a shot that stands in the air.
func flier(no, owner, x, y int) api.Shot {
	return api.Shot{No: no, Owner: owner, Power: 1, At: at(x, y), Left: 20}
}

// fliers are n of them, whose numbers are from no on.
func fliers(n, no, x, y int) []api.Shot {
	var l []api.Shot
	for i := range n {
		l = append(l, flier(no+i, i%2, x, y))
	}
	return l
}

// same tells whether two worlds are alike; nil and empty lists are the same.
func same(a, b api.World) bool {
	return a.Frame == b.Frame && a.NextNo == b.NextNo &&
		slices.Equal(a.Movers, b.Movers) && slices.Equal(a.Scores, b.Scores) &&
		slices.Equal(a.Shots, b.Shots) && slices.Equal(a.Pickups, b.Pickups)
}

// own is a world that shares nothing with another one.
func own(w api.World) api.World {
	w.Movers, w.Scores = slices.Clone(w.Movers), slices.Clone(w.Scores)
	w.Shots, w.Pickups = slices.Clone(w.Shots), slices.Clone(w.Pickups)
	return w
}

func wantConfig(t *testing.T, name string, c api.Config, want api.Errno) {
	t.Helper()
	if e := world.CheckConfig(c); e != want {
		t.Errorf("%s: CheckConfig(%+v): %d, not %d", name, c, e, want)
	}
}

func TestP13_1Peers(t *testing.T) {
	starts := []int{4, 6, 6, 4}
	for standard, most := range starts {
		for _, peers := range []int{math.MinInt, -2, -1, 0, 1, 2, 3, 4, 5, 6, 7, 8, math.MaxInt} {
			want := api.Errno(130)
			if 2 <= peers && peers <= most {
				want = 0
			}
			wantConfig(t, "peers", session(peers, standard, 0, 2), want)
		}
	}
}

// room is a map of one row between walls.
func room(row string) api.Arena {
	n := len(row) + 2
	edge := make([]byte, n)
	for i := range edge {
		edge[i] = '#'
	}
	return api.Arena{Cols: n, Rows: 3, Signs: string(edge) + "#" + row + "#" + string(edge)}
}

func TestP13_1Arena(t *testing.T) {
	for _, x := range []struct {
		row   string
		peers int
		want  api.Errno
	}{
		{"12", 2, 0}, {"12", 3, 130}, {"1.2.3", 3, 0}, {"1.2.3", 2, 0}, {"1.2.3", 4, 130}, {"654321", 6, 0},
		{"1", 2, 130}, {"1.3", 2, 130}, {"12.4", 2, 130}, {"12.1", 2, 130}, {"1#2", 2, 130}, {"12#*", 2, 130}, {"12x", 2, 130}, {"12 ", 2, 130}, {"..", 2, 130}, {"21", 2, 0},
		{"12****************", 2, 0}, {"12*****************", 2, 130},
	} {
		c := two()
		c.Peers, c.Arena = x.peers, room(x.row)
		wantConfig(t, x.row, c, x.want)
	}
}

func TestP13_1SpoiltArena(t *testing.T) {
	good := two().Arena
	for name, change := range map[string]func(a *api.Arena){
		"nothing":        func(a *api.Arena) { *a = api.Arena{} },
		"no signs":       func(a *api.Arena) { a.Signs = "" },
		"a sign less":    func(a *api.Arena) { a.Signs = a.Signs[1:] },
		"a sign more":    func(a *api.Arena) { a.Signs += "#" },
		"a hole":         func(a *api.Arena) { a.Signs = "." + a.Signs[1:] },
		"a column less":  func(a *api.Arena) { a.Cols-- },
		"a row less":     func(a *api.Arena) { a.Rows-- },
		"turned":         func(a *api.Arena) { a.Cols, a.Rows = a.Rows, a.Cols },
		"below nought":   func(a *api.Arena) { a.Cols, a.Rows = -a.Cols, -a.Rows },
		"great columns":  func(a *api.Arena) { a.Cols = math.MaxInt },
		"great rows":     func(a *api.Arena) { a.Rows = math.MinInt },
		"too many rows":  func(a *api.Arena) { *a = tall(25) },
		"too wide a map": func(a *api.Arena) { *a = room("12.............................") },
	} {
		c := two()
		change(&c.Arena)
		wantConfig(t, name, c, 130)
		c.Arena = good
		wantConfig(t, "good", c, 0)
	}
	c := two()
	c.Arena = tall(24)
	wantConfig(t, "as many rows as there may be", c, 0)
	c.Arena = room("12............................")
	wantConfig(t, "as wide as it may be", c, 0)
}

// tall is a map of so many rows with a lane from above to below.
func tall(rows int) api.Arena {
	signs := "###"
	for i := range rows - 2 {
		signs += "#" + string("12."[min(i, 2)]) + "#"
	}
	return api.Arena{Cols: 3, Rows: rows, Signs: signs + "###"}
}

func TestP13_1Lags(t *testing.T) {
	for _, x := range []struct {
		lags []int
		want api.Errno
	}{
		{nil, 130}, {[]int{}, 130}, {[]int{0}, 130}, {[]int{5}, 130}, {[]int{0, 1}, 0}, {[]int{0, 2}, 0}, {[]int{0, 47}, 0}, {[]int{0, 48}, 130}, {[]int{0, 49}, 130}, {[]int{0, math.MaxInt}, 130},
		{[]int{1, 2}, 130}, {[]int{-1, 2}, 130}, {[]int{-1, 0}, 130}, {[]int{47, 48}, 130}, {[]int{0, 0}, 130}, {[]int{0, -1}, 130}, {[]int{0, math.MinInt}, 130}, {[]int{math.MinInt, 0}, 130},
		{[]int{0, 1, 2}, 0}, {[]int{0, 2, 2}, 130}, {[]int{0, 3, 2}, 130}, {[]int{0, 2, 48}, 130}, {[]int{0, 48, 47}, 130}, {[]int{0, 46, 47}, 0}, {[]int{0, 0, 47}, 130},
		{[]int{0, 1, 2, 3, 4}, 0}, {[]int{0, 10, 20, 30, 47}, 0}, {[]int{0, 43, 44, 45, 46}, 0}, {[]int{0, 44, 45, 46, 47}, 0}, {[]int{0, 45, 46, 47, 48}, 130}, {[]int{1, 2, 3, 4, 5}, 130}, {[]int{0, 1, 2, 3, 3}, 130}, {[]int{0, 1, 2, 4, 3}, 130},
		{[]int{0, 1, 2, 3, 4, 5}, 130}, {[]int{0, 1, 2, 3, 4, 47}, 130}, {[]int{0, 0, 0, 0, 0, 0}, 130}, {make([]int, 300), 130},
	} {
		c := two()
		c.Lags = x.lags
		wantConfig(t, "lags", c, x.want)
	}
}

// meantLags is what is said of Lags, word by word.
func meantLags(lags []int) bool {
	if len(lags) != 2 && len(lags) != 3 && len(lags) != 4 && len(lags) != 5 {
		return false
	}
	for i, lag := range lags {
		if i == 0 && lag != 0 || i > 0 && lag <= lags[i-1] || i == len(lags)-1 && lag >= 48 {
			return false
		}
	}
	return true
}

func TestP13_1AllLags(t *testing.T) {
	numbers := []int{-1, 0, 1, 2, 46, 47, 48}
	lists := [][]int{nil}
	for len(lists) > 0 {
		lags := lists[0]
		lists = lists[1:]
		c := two()
		c.Lags = lags
		want := api.Errno(0)
		if !meantLags(lags) {
			want = 130
		}
		wantConfig(t, "lags", c, want)
		for _, n := range numbers {
			if len(lags) < 5 {
				lists = append(lists, append(slices.Clone(lags), n))
			}
		}
	}
}

func TestP13_1Seed(t *testing.T) {
	for _, seed := range []uint64{0, 1, 1 << 63, math.MaxUint64} {
		c := six()
		c.Seed = seed
		wantConfig(t, "seed", c, 0)
	}
}

// spoiltSessions are sessions that may not be so, each by one thing.
func spoiltSessions() []api.Config {
	var l []api.Config
	for _, peers := range []int{-1, 0, 1, 5, 7} {
		l = append(l, session(peers, 3, 0, 2))
	}
	for _, lags := range [][]int{nil, {0}, {1, 2}, {0, 48}, {0, 2, 2}, {0, 3, 2}, {0, 1, 2, 3, 4, 5}} {
		l = append(l, session(2, 3, lags...))
	}
	c := two()
	c.Arena = api.Arena{}
	d := two()
	d.Arena.Signs = "." + d.Arena.Signs[1:]
	return append(l, c, d, api.Config{})
}

// state is a change of a busy world, and whether it may be one of the session then.
type state struct {
	name string
	may  bool
	do   func(w *api.World)
}

func frameStates() []state {
	var l []state
	for _, x := range []struct {
		frame int64
		may   bool
	}{{math.MinInt64, false}, {-1, false}, {0, true}, {1, true}, {4097, true}, {mostFrame - 1, true}, {mostFrame, true}, {mostFrame + 1, false}, {math.MaxInt64, false}} {
		l = append(l, state{fmt.Sprintf("Frame %d", x.frame), x.may, func(w *api.World) { w.Frame = x.frame }})
	}
	return l
}

func nextStates() []state {
	var l []state
	for _, x := range []struct {
		next int
		may  bool
	}{{math.MinInt, false}, {-1, false}, {0, false}, {1, false}, {70, false}, {71, true}, {72, true}, {mostNo, true}, {mostNo + 1, true}, {mostNo + 2, false}, {math.MaxInt, false}} {
		l = append(l, state{fmt.Sprintf("NextNo %d", x.next), x.may, func(w *api.World) { w.NextNo = x.next }})
	}
	for _, x := range []struct {
		next int
		may  bool
	}{{math.MinInt, false}, {-1, false}, {0, false}, {1, true}, {2, true}, {mostNo + 1, true}, {mostNo + 2, false}} {
		l = append(l, state{fmt.Sprintf("nothing there, NextNo %d", x.next), x.may, func(w *api.World) { w.Shots, w.Pickups, w.NextNo = nil, nil, x.next }})
	}
	for _, x := range []struct {
		next int
		may  bool
	}{{1, false}, {7, false}, {8, false}, {9, true}} {
		l = append(l, state{fmt.Sprintf("pickups alone, NextNo %d", x.next), x.may, func(w *api.World) { w.Shots, w.NextNo = nil, x.next }})
	}
	return append(l,
		state{"a shot and a pickup of the greatest number", true, func(w *api.World) { w.Shots[2].No, w.Pickups[1].No, w.NextNo = mostNo, mostNo, mostNo+1 }},
		state{"the greatest number, and it is the next one", false, func(w *api.World) { w.Shots[2].No, w.NextNo = mostNo, mostNo }},
		state{"a pickup of the next number", false, func(w *api.World) { w.Pickups[1].No = 71 }},
		state{"a pickup of one number less", true, func(w *api.World) { w.Pickups[1].No = 70 }},
		state{"a pickup above the next number", false, func(w *api.World) { w.Pickups[1].No = 72 }},
		state{"a shot of the next number", false, func(w *api.World) { w.Shots[2].No = 71 }},
		state{"a shot above the next number", false, func(w *api.World) { w.Shots[2].No = 9999 }})
}

func moverStates() []state {
	return []state{
		{"no movers", false, func(w *api.World) { w.Movers = nil }},
		{"a mover less", false, func(w *api.World) { w.Movers = w.Movers[1:] }},
		{"a mover more", false, func(w *api.World) { w.Movers = append(w.Movers, w.Movers[0]) }},
		{"no scores", false, func(w *api.World) { w.Scores = nil }},
		{"a score less", false, func(w *api.World) { w.Scores = w.Scores[1:] }},
		{"a score more", false, func(w *api.World) { w.Scores = append(w.Scores, api.Score{}) }},
		{"neither", false, func(w *api.World) { w.Movers, w.Scores = nil, nil }},
		{"one more of both", false, func(w *api.World) { w.Movers, w.Scores = append(w.Movers, w.Movers[0]), append(w.Scores, api.Score{}) }},
		{"a first mover that may not be", false, func(w *api.World) { w.Movers[0].Health = 101 }},
		{"a first mover without health", false, func(w *api.World) { w.Movers[0].Health = 0 }},
		{"a second mover that may not be", false, func(w *api.World) { w.Movers[1].Health = 1 }},
		{"a last mover that may not be", false, func(w *api.World) { w.Movers[len(w.Movers)-1].Out = 31 }},
		{"movers of noughts", false, func(w *api.World) { clear(w.Movers) }},
		{"a mover far beyond the map", true, func(w *api.World) { w.Movers[0].At = at(bound, -bound) }},
		{"a mover beyond the bounds", false, func(w *api.World) { w.Movers[0].At = at(bound+1, 0) }},
		{"a mover in a wall", true, func(w *api.World) { w.Movers[0].At = at(0, 0) }},
		{"movers on one another", true, func(w *api.World) { w.Movers[0].At = w.Movers[1].At }},
		{"a first score that may not be", false, func(w *api.World) { w.Scores[0].Hits = -1 }},
		{"a last score that may not be", false, func(w *api.World) { w.Scores[len(w.Scores)-1].Points = bound + 1 }},
		{"a score at the bound", true, func(w *api.World) { w.Scores[0] = api.Score{Points: -bound, Hits: bound, Outs: bound, Streak: bound} }},
	}
}

func shotStates() []state {
	l := []state{
		{"as it is", true, func(w *api.World) {}},
		{"no shots", true, func(w *api.World) { w.Shots = []api.Shot{} }},
		{"47 shots", true, func(w *api.World) { w.Shots = fliers(47, 1, 9000, 9000) }},
		{"48 shots", true, func(w *api.World) { w.Shots = fliers(48, 1, 9000, 9000) }},
		{"49 shots", false, func(w *api.World) { w.Shots = fliers(49, 1, 9000, 9000) }},
		{"300 shots", false, func(w *api.World) { w.Shots, w.NextNo = fliers(300, 1, 9000, 9000), 1000 }},
		{"a number as the one ahead", false, func(w *api.World) { w.Shots[1].No = 5 }},
		{"a last number as the one ahead", false, func(w *api.World) { w.Shots[2].No = 9 }},
		{"a number that falls", false, func(w *api.World) { w.Shots[1].No = 4 }},
		{"a last number that falls", false, func(w *api.World) { w.Shots[2].No = 8 }},
		{"a last number that falls below the first", false, func(w *api.World) { w.Shots[2].No = 1 }},
		{"a number just above", true, func(w *api.World) { w.Shots[1].No = 6 }},
		{"a shot of a pickup's number", true, func(w *api.World) { w.Shots[1].No = 8 }},
		{"a shot of noughts", false, func(w *api.World) { w.Shots = make([]api.Shot, 1) }},
	}
	for place := range 3 {
		l = append(l,
			state{"an owner at Peers", false, func(w *api.World) { w.Shots[place].Owner = len(w.Movers) }},
			state{"an owner above Peers", false, func(w *api.World) { w.Shots[place].Owner = len(w.Movers) + 1 }},
			state{"the last owner", true, func(w *api.World) { w.Shots[place].Owner = len(w.Movers) - 1 }},
			state{"the first owner", true, func(w *api.World) { w.Shots[place].Owner = 0 }},
			state{"an owner below nought", false, func(w *api.World) { w.Shots[place].Owner = -1 }},
			state{"no power", false, func(w *api.World) { w.Shots[place].Power = 0 }},
			state{"no frame left", false, func(w *api.World) { w.Shots[place].Left = 0 }},
			state{"too many left", false, func(w *api.World) { w.Shots[place].Left = 41 }},
			state{"no number", false, func(w *api.World) { w.Shots[place].No = 0 }},
			state{"too fast", false, func(w *api.World) { w.Shots[place].Speed.X = 1537 }})
	}
	return l
}

func pickupStates() []state {
	put := func(l ...api.Pickup) func(w *api.World) { return func(w *api.World) { w.Pickups = l } }
	return []state{
		{"no pickups", true, put()},
		{"one", true, put(api.Pickup{No: 1, Spot: 1, Kind: 1})},
		{"the same spot", false, put(api.Pickup{No: 1, Spot: 1, Kind: 1}, api.Pickup{No: 2, Spot: 1, Kind: 1})},
		{"a spot that is none", false, put(api.Pickup{No: 1, Spot: 16, Kind: 1})},
		{"a spot below nought", false, put(api.Pickup{No: 1, Spot: -1, Kind: 1})},
		{"numbers that fall", false, put(api.Pickup{No: 2, Spot: 0, Kind: 1}, api.Pickup{No: 1, Spot: 1, Kind: 1})},
		{"the same number", false, put(api.Pickup{No: 2, Spot: 0, Kind: 1}, api.Pickup{No: 2, Spot: 1, Kind: 1})},
		{"no number", false, put(api.Pickup{No: 0, Spot: 0, Kind: 1})},
		{"no kind", false, put(api.Pickup{No: 1, Spot: 0, Kind: 0})},
		{"a kind too great", false, put(api.Pickup{No: 1, Spot: 0, Kind: 4})},
		{"nine", false, func(w *api.World) {
			for i := range 9 {
				w.Pickups = append(w.Pickups, api.Pickup{No: 10 + i, Spot: 2 + i, Kind: 1})
			}
		}},
	}
}

func TestP13_1World(t *testing.T) {
	for _, c := range []api.Config{two(), six(), session(4, 0, 0, 9, 47)} {
		for _, s := range slices.Concat(frameStates(), nextStates(), moverStates(), shotStates(), pickupStates()) {
			w := busy(t, c)
			s.do(&w)
			want := api.Errno(131)
			if s.may {
				want = 0
			}
			if e := world.Check(c, w); e != want {
				t.Errorf("%d peers, %s: Check: %d, not %d", c.Peers, s.name, e, want)
			}
			for _, spoilt := range spoiltSessions() {
				if e := world.Check(spoilt, w); e != 130 {
					t.Errorf("%s, of %+v: Check: %d", s.name, spoilt, e)
				}
			}
		}
	}
}

// TestP13_1Spots: there are as many spots as the session's map has.
func TestP13_1Spots(t *testing.T) {
	for standard, spots := range []int{8, 6, 4, 2} {
		c := session(4, standard, 0, 2)
		for spot := range 17 {
			w := busy(t, c)
			w.Pickups = []api.Pickup{{No: 1, Spot: spot, Kind: 1}}
			want := api.Errno(131)
			if spot < spots {
				want = 0
			}
			if e := world.Check(c, w); e != want {
				t.Errorf("map %d, spot %d: %d, not %d", standard, spot, e, want)
			}
		}
	}
	c := two()
	c.Arena = room("12")
	w := begun(t, c)
	if e := world.Check(c, w); e != 0 {
		t.Errorf("no spot, no pickup: %d", e)
	}
	w.Pickups, w.NextNo = []api.Pickup{{No: 1, Spot: 0, Kind: 1}}, 2
	if e := world.Check(c, w); e != 131 {
		t.Errorf("no spot, a pickup: %d", e)
	}
}

// TestP13_1OtherSession: a world of one session is none of another one with more or fewer peers.
func TestP13_1OtherSession(t *testing.T) {
	for peers := 2; peers <= 6; peers++ {
		w := begun(t, session(peers, 1, 0, 2))
		for others := 2; others <= 6; others++ {
			want := api.Errno(131)
			if others == peers {
				want = 0
			}
			if e := world.Check(session(others, 1, 0, 2), w); e != want {
				t.Errorf("%d of %d peers: %d, not %d", peers, others, e, want)
			}
		}
	}
	if e := world.Check(two(), api.World{}); e != 131 {
		t.Errorf("nothing: %d", e)
	}
}

// meantWorld is what is said of a world of a session that may be so, word by word.
func meantWorld(c api.Config, w api.World) bool {
	if w.Frame < 0 || w.Frame > mostFrame || len(w.Movers) != c.Peers || len(w.Scores) != c.Peers || len(w.Shots) > 48 || w.NextNo < 1 || w.NextNo > mostNo+1 {
		return false
	}
	for seat := range c.Peers {
		if mover.Check(w.Movers[seat]) != 0 || score.Check(w.Scores[seat]) != 0 {
			return false
		}
	}
	for i, s := range w.Shots {
		if shot.Check(s) != 0 || s.Owner >= c.Peers || i > 0 && w.Shots[i-1].No >= s.No || w.NextNo <= s.No {
			return false
		}
	}
	for _, p := range w.Pickups {
		if w.NextNo <= p.No {
			return false
		}
	}
	return pickup.Check(w.Pickups, len(arena.Spots(c.Arena))) == 0
}

// TestP13_1Some: worlds that are changed at one or two places, or not at all.
func TestP13_1Some(t *testing.T) {
	r := rand.New(rand.NewSource(131))
	good := 0
	all := slices.Concat(frameStates(), nextStates(), moverStates(), shotStates(), pickupStates())
	for range 20000 {
		c := session(2+r.Intn(5), 1+r.Intn(2), 0, 2)
		w := someWorld(r, c)
		if len(w.Shots) >= 3 && len(w.Pickups) >= 2 {
			for range r.Intn(3) {
				change := all[r.Intn(len(all))].do
				if len(w.Shots) >= 3 && len(w.Pickups) >= 2 && len(w.Movers) >= 2 && len(w.Scores) >= 2 {
					change(&w)
				}
			}
		}
		want := api.Errno(131)
		if meantWorld(c, w) {
			want = 0
			good++
		}
		if e := world.Check(c, w); e != want {
			t.Fatalf("Check(%+v, %+v): %d, not %d", c, w, e, want)
		}
	}
	if good < 5000 || good > 19000 {
		t.Errorf("%d may be", good)
	}
}

func TestP13_2Example(t *testing.T) {
	w, e := world.New(two())
	want := api.World{
		Movers: []api.Mover{
			{At: at(6144, 6144), Facing: 0, Health: 100, Energy: 50},
			{At: at(26624, 6144), Facing: 4, Health: 100, Energy: 50},
		},
		Scores: make([]api.Score, 2), NextNo: 1,
	}
	if !same(w, want) || e != 0 {
		t.Errorf("New: %+v %d, not %+v", w, e, want)
	}
}

func TestP13_2Seats(t *testing.T) {
	points := []api.Point{at(6144, 6144), at(75776, 6144), at(43008, 6144), at(6144, 30720), at(75776, 30720), at(43008, 30720)}
	for peers := 2; peers <= 6; peers++ {
		w, e := world.New(session(peers, 1, 0, 2))
		want := api.World{Scores: make([]api.Score, peers), NextNo: 1}
		for seat := range peers {
			want.Movers = append(want.Movers, api.Mover{At: points[seat], Facing: []int{0, 4, 8, 12, 0, 4}[seat], Health: 100, Energy: 50})
		}
		if !same(w, want) || e != 0 {
			t.Errorf("New of %d: %+v %d, not %+v", peers, w, e, want)
		}
	}
}

// TestP13_2Alone: neither the seed nor the lags matter.
func TestP13_2Alone(t *testing.T) {
	w := begun(t, six())
	for _, seed := range []uint64{0, 1, math.MaxUint64} {
		for _, lags := range [][]int{{0, 1}, {0, 5, 47}} {
			c := six()
			c.Seed, c.Lags = seed, lags
			if x := begun(t, c); !same(x, w) {
				t.Errorf("seed %d, lags %v: %+v, not %+v", seed, lags, x, w)
			}
		}
	}
}

func TestP13_2Spoilt(t *testing.T) {
	for _, c := range spoiltSessions() {
		if w, e := world.New(c); !same(w, api.World{}) || e != 130 {
			t.Errorf("New(%+v): %+v %d", c, w, e)
		}
	}
}
