package view_test

import (
	"fmt"
	"math"
	"slices"
	"strings"
	"testing"

	"echelon/api"
	"echelon/arena"
	"echelon/view"
	"echelon/world"
)

// shown are the lines of a world that may be shown.
func shown(t *testing.T, c api.Config, w api.World) []string {
	t.Helper()
	text, e := view.Show(c, w)
	if e != api.OK {
		t.Fatalf("Show(%+v, %+v): %q %d", c, w, text, e)
	}
	all := lines(t, text)
	if len(all) != 1+c.Arena.Rows+c.Peers {
		t.Fatalf("Show(%+v, %+v): %d lines: %q", c, w, len(all), text)
	}
	return all
}

// picture are the map's rows among them, seats the lines behind.
func picture(t *testing.T, c api.Config, w api.World) []string {
	t.Helper()
	return shown(t, c, w)[1 : 1+c.Arena.Rows]
}

func seats(t *testing.T, c api.Config, w api.World) []string {
	t.Helper()
	return shown(t, c, w)[1+c.Arena.Rows:]
}

// bare are the rows of a map without anything on it.
func bare(a api.Arena) []string {
	var all []string
	for row := range a.Rows {
		line := strings.Map(func(r rune) rune {
			if r == '#' {
				return r
			}
			return '.'
		}, a.Signs[row*a.Cols:(row+1)*a.Cols])
		all = append(all, line)
	}
	return all
}

// with are rows with another sign in a cell, if that is a free one of the map.
func with(rows []string, col, row int, sign byte) []string {
	all := slices.Clone(rows)
	if row < 0 || row >= len(all) || col < 0 || col >= len(all[row]) || all[row][col] == '#' {
		return all
	}
	all[row] = all[row][:col] + string(rune(sign)) + all[row][col+1:]
	return all
}

// hidden is a world in which nobody is seen: all movers are out.
func hidden(t *testing.T, c api.Config) api.World {
	t.Helper()
	w := begun(t, c)
	for seat := range w.Movers {
		w.Movers[seat] = gone(w.Movers[seat].At, 5)
	}
	return w
}

func TestP23_1Begun(t *testing.T) {
	c := six()
	text, e := view.Show(c, begun(t, c))
	tells(t, "six", text, e,
		"frame 0",
		"####################",
		"#A........C.......B#",
		"#..###..........##.#",
		"#..#.......#.......#",
		"#..........#.......#",
		"#..........#.......#",
		"#..##...........##.#",
		"#D........F.......E#",
		"####################",
		"A at 6144,6144 health 100 energy 50 points 0",
		"B at 75776,6144 health 100 energy 50 points 0",
		"C at 43008,6144 health 100 energy 50 points 0",
		"D at 6144,30720 health 100 energy 50 points 0",
		"E at 75776,30720 health 100 energy 50 points 0",
		"F at 43008,30720 health 100 energy 50 points 0",
	)
}

// TestP23_1Frames: 0, the greatest one, and some between.
func TestP23_1Frames(t *testing.T) {
	for _, c := range []api.Config{two(), six()} {
		w := begun(t, c)
		for _, frame := range []int64{0, 1, 9, 10, 1<<31 - 1, 1 << 31, 1 << 32, mostFrame - 1, mostFrame} {
			w.Frame = frame
			if got, want := shown(t, c, w)[0], fmt.Sprintf("frame %d", frame); got != want {
				t.Errorf("%q, meant %q", got, want)
			}
		}
	}
}

// TestP23_1Maps: each standard map, with each number of peers, with nobody in play, and at the start.
func TestP23_1Maps(t *testing.T) {
	for standard := range 4 {
		for peers := 2; peers <= 6; peers++ {
			c := session(peers, standard, 0, 2)
			if world.CheckConfig(c) != api.OK {
				continue
			}
			want := bare(c.Arena)
			if got := picture(t, c, hidden(t, c)); !slices.Equal(got, want) {
				t.Errorf("map %d: %q, meant %q", standard, got, want)
			}
			for seat, p := range arena.Starts(c.Arena)[:peers] {
				want = with(want, p.X/4096, p.Y/4096, "ABCDEF"[seat])
			}
			if got := picture(t, c, begun(t, c)); !slices.Equal(got, want) {
				t.Errorf("map %d: %q, meant %q", standard, got, want)
			}
		}
	}
}

// TestP23_1AllAtOneSpot: each of what there may be in one cell together. The first one that is there stands for it.
func TestP23_1AllAtOneSpot(t *testing.T) {
	c := two()
	spots := arena.Spots(c.Arena)
	for spot, p := range spots {
		for first := range 3 { // elsewhere, in play, out
			for second := range 3 {
				for shots := range 3 {
					for kind := range 4 {
						w := hidden(t, c)
						for seat, how := range []int{first, second} {
							switch how {
							case 1:
								w.Movers[seat] = begun(t, c).Movers[seat]
								w.Movers[seat].At = p
							case 2:
								w.Movers[seat].At = p
							}
						}
						for n := range shots {
							w.Shots = append(w.Shots, flier(n+1, n, p))
						}
						if kind > 0 {
							w.Pickups = []api.Pickup{{No: 9, Spot: spot, Kind: kind}}
						}
						w.NextNo = 10
						sign := ".hcp"[kind]
						if shots > 0 {
							sign = 'o'
						}
						if second == 1 {
							sign = 'B'
						}
						if first == 1 {
							sign = 'A'
						}
						want := with(bare(c.Arena), p.X/4096, p.Y/4096, sign)
						if got := picture(t, c, w); !slices.Equal(got, want) {
							t.Errorf("%+v: %q, meant %q", w, got, want)
						}
					}
				}
			}
		}
	}
}

// TestP23_1TwoMovers: of each two in one cell the one of the lesser seat is seen; if that one is out, the other.
func TestP23_1TwoMovers(t *testing.T) {
	c := six()
	for a := range 6 {
		for b := a + 1; b < 6; b++ {
			w := hidden(t, c)
			p := at(5*4096+7, 3*4096+9)
			w.Movers[a], w.Movers[b] = begun(t, c).Movers[a], begun(t, c).Movers[b]
			w.Movers[a].At, w.Movers[b].At = p, at(p.X+1000, p.Y+2000)
			if got, want := picture(t, c, w), with(bare(c.Arena), 5, 3, "ABCDEF"[a]); !slices.Equal(got, want) {
				t.Errorf("%d and %d: %q, meant %q", a, b, got, want)
			}
			w.Movers[a] = gone(p, 1)
			if got, want := picture(t, c, w), with(bare(c.Arena), 5, 3, "ABCDEF"[b]); !slices.Equal(got, want) {
				t.Errorf("%d out, and %d: %q, meant %q", a, b, got, want)
			}
		}
	}
}

// TestP23_1SomeThingsBeside: things in cells of their own, all seen at one time.
func TestP23_1SomeThingsBeside(t *testing.T) {
	c := six()
	w := begun(t, c)
	w.Movers[1] = gone(w.Movers[1].At, 30)
	w.Movers[2].At = at(4096*2, 4096*4)
	w.Movers[3].At = at(4096*3-1, 4096*5-1)
	w.Shots = []api.Shot{flier(1, 0, at(4096*7+4095, 4096*4)), flier(2, 5, at(4096*18, 4096*1)), flier(4, 1, at(4096*17, 4096*2)), flier(5, 2, at(4096*4, 4096*3+1))}
	w.Pickups = []api.Pickup{{No: 3, Spot: 5, Kind: 3}, {No: 6, Spot: 0, Kind: 1}, {No: 7, Spot: 2, Kind: 2}, {No: 8, Spot: 3, Kind: 1}, {No: 9, Spot: 1, Kind: 2}}
	w.NextNo = 10
	text, e := view.Show(c, w)
	tells(t, "six", text, e,
		"frame 0",
		"####################",
		"#A................o#",
		"#..###..h....c..##.#",
		"#..#o......#.......#",
		"#.C...co...#....h..#",
		"#..........#.......#",
		"#..##.........p.##.#",
		"#.........F.......E#",
		"####################",
		"A at 6144,6144 health 100 energy 50 points 0",
		"B at 75776,6144 health 0 energy 0 points 0 out 30",
		"C at 8192,16384 health 100 energy 50 points 0",
		"D at 12287,20479 health 100 energy 50 points 0",
		"E at 75776,30720 health 100 energy 50 points 0",
		"F at 43008,30720 health 100 energy 50 points 0",
	)
}

// TestP23_1Borders: a point at the border of a cell, one below it, and at its other end; on both axes.
func TestP23_1Borders(t *testing.T) {
	c := two()
	for _, x := range []struct{ n, cell int }{{4095, 0}, {4096, 1}, {4097, 1}, {8191, 1}, {8192, 2}, {12287, 2}, {12288, 3}, {16383, 3}, {16384, 4}, {20479, 4}, {20480, 5}, {24575, 5}, {24576, 6}, {28671, 6}, {28672, 7}} {
		pinned(t, c, at(x.n, 5000), x.cell, 1)
		pinned(t, c, at(5000, x.n), 1, x.cell)
	}
	pinned(t, c, at(4096*7, 4096*5), 7, 5)
	pinned(t, c, at(4096, 4096), 1, 1)
	pinned(t, c, at(4095, 4096), 0, 1)
	pinned(t, c, at(4096, 4095), 1, 0)
	pinned(t, c, at(4096*7-1, 4096*5-1), 6, 4)
}

// pinned holds a mover, and a shot, at a point to be seen in a cell, if that is a free one of the map, and nowhere else.
func pinned(t *testing.T, c api.Config, p api.Point, col, row int) {
	t.Helper()
	w := hidden(t, c)
	w.Shots, w.NextNo = []api.Shot{flier(1, 0, p)}, 2
	if got, want := picture(t, c, w), with(bare(c.Arena), col, row, 'o'); !slices.Equal(got, want) {
		t.Errorf("a shot at %v: %q, meant %q", p, got, want)
	}
	w.Shots = nil
	w.Movers[1].At = p
	if got, want := picture(t, c, w), bare(c.Arena); !slices.Equal(got, want) {
		t.Errorf("a mover that is out at %v: %q, meant %q", p, got, want)
	}
	w.Movers[1] = begun(t, c).Movers[1]
	w.Movers[1].At = p
	if got, want := picture(t, c, w), with(bare(c.Arena), col, row, 'B'); !slices.Equal(got, want) {
		t.Errorf("a mover at %v: %q, meant %q", p, got, want)
	}
	if got, want := seats(t, c, w)[1], fmt.Sprintf("B at %d,%d health 100 energy 50 points 0", p.X, p.Y); got != want {
		t.Errorf("%q, meant %q", got, want)
	}
}

// TestP23_1EachCell: of the map, and about it on all sides: what is in no cell of it is not seen in another one.
func TestP23_1EachCell(t *testing.T) {
	c := two()
	for col := -18; col < 26; col++ {
		for row := -8; row < 16; row++ {
			pinned(t, c, at(col*4096+1234, row*4096+4000), col, row)
		}
	}
}

// TestP23_1InNoCell: just beside the map, far from it, below 0, at the ends of what a point may be.
func TestP23_1InNoCell(t *testing.T) {
	c := two()
	for _, n := range []int{-1, -2, -4095, -4096, -4097, -8192, -4096 * 7, -1 << 31 / 2, -bound, 4096 * 8, 4096*8 + 1, 4096 * 9, 4096 * 40, 1 << 30, bound} {
		for _, m := range []int{5000, 9000, 13000} {
			pinned(t, c, at(n, m), -1, -1)
			pinned(t, c, at(m, n), -1, -1)
		}
		pinned(t, c, at(n, n), -1, -1)
		pinned(t, c, at(n, -n), -1, -1)
	}
}

// TestP23_1Seats: movers with and without a shield, in play and out, all together.
func TestP23_1Seats(t *testing.T) {
	c := six()
	w := begun(t, c)
	w.Movers[0].Shield, w.Movers[0].Energy = true, 0
	w.Movers[1] = gone(at(-5, 2147483647), 1)
	w.Movers[2] = gone(at(0, 0), 30)
	w.Movers[3].At, w.Movers[3].Health, w.Movers[3].Energy = at(-2147483647, -1), 1, 100
	w.Movers[4].Shield, w.Movers[4].Health, w.Movers[4].Energy = true, 37, 99
	w.Movers[5] = gone(at(43008, 30720), 2)
	for seat, points := range []int{-bound, bound, 0, 10, -1, 1} {
		w.Scores[seat] = api.Score{Points: points, Hits: 100 + seat, Outs: 200 + seat, Streak: 300 + seat}
	}
	want := []string{
		"A at 6144,6144 health 100 energy 0 points -2147483647 shield",
		"B at -5,2147483647 health 0 energy 0 points 2147483647 out 1",
		"C at 0,0 health 0 energy 0 points 0 out 30",
		"D at -2147483647,-1 health 1 energy 100 points 10",
		"E at 75776,30720 health 37 energy 99 points -1 shield",
		"F at 43008,30720 health 0 energy 0 points 1 out 2",
	}
	if got := seats(t, c, w); !slices.Equal(got, want) {
		t.Errorf("%q, meant %q", got, want)
	}
}

// TestP23_1WhatIsNotTold: speeds, pushes and the like change nothing, nor do a seed and lags.
func TestP23_1WhatIsNotTold(t *testing.T) {
	c := two()
	w := begun(t, c)
	want := shown(t, c, w)
	w.Movers[0].Speed, w.Movers[0].Push = at(1024, -1024), at(-256, 256)
	w.Movers[0].Facing, w.Movers[0].Cool, w.Movers[0].Said = 15, 12, 255
	w.Scores[1] = api.Score{Hits: 5, Outs: 6, Streak: 7}
	w.NextNo = mostNo + 1
	c.Seed, c.Lags = math.MaxUint64, []int{0, 1, 2, 3, 47}
	if got := shown(t, c, w); !slices.Equal(got, want) {
		t.Errorf("%q, meant %q", got, want)
	}
	w.Shots, w.Pickups = []api.Shot{}, []api.Pickup{}
	if got := shown(t, c, w); !slices.Equal(got, want) {
		t.Errorf("of empty lists: %q, meant %q", got, want)
	}
}

// wrongSessions are some that may not be so, each for one reason.
func wrongSessions() []api.Config {
	edit := func(do func(*api.Config)) api.Config {
		c := two()
		do(&c)
		return c
	}
	return []api.Config{
		{},
		edit(func(c *api.Config) { c.Peers = 1 }),
		edit(func(c *api.Config) { c.Peers = 0 }),
		edit(func(c *api.Config) { c.Peers = -1 }),
		edit(func(c *api.Config) { c.Peers = math.MaxInt }),
		edit(func(c *api.Config) { c.Peers = math.MinInt }),
		session(5, 3, 0, 2),
		session(7, 1, 0, 2),
		edit(func(c *api.Config) { c.Lags = nil }),
		edit(func(c *api.Config) { c.Lags = []int{0} }),
		edit(func(c *api.Config) { c.Lags = []int{1, 2} }),
		edit(func(c *api.Config) { c.Lags = []int{0, 48} }),
		edit(func(c *api.Config) { c.Lags = []int{0, 2, 2} }),
		edit(func(c *api.Config) { c.Lags = []int{0, 1, 2, 3, 4, 5} }),
		edit(func(c *api.Config) { c.Arena = api.Arena{} }),
		edit(func(c *api.Config) { c.Arena.Signs = "" }),
		edit(func(c *api.Config) { c.Arena.Signs += "#" }),
		edit(func(c *api.Config) { c.Arena.Cols, c.Arena.Rows = 6, 8 }),
		edit(func(c *api.Config) { c.Arena.Cols = math.MaxInt }),
		edit(func(c *api.Config) { c.Arena.Rows = math.MinInt }),
		edit(func(c *api.Config) { c.Arena.Signs = strings.Replace(c.Arena.Signs, "1", ".", 1) }),
		edit(func(c *api.Config) { c.Arena.Signs = strings.Replace(c.Arena.Signs, ".", "x", 1) }),
	}
}

// wrongWorlds are some that may not be of the session of two, each for one reason.
func wrongWorlds(t *testing.T) []api.World {
	edit := func(do func(*api.World)) api.World {
		w := begun(t, two())
		do(&w)
		return w
	}
	return []api.World{
		{},
		edit(func(w *api.World) { w.Frame = -1 }),
		edit(func(w *api.World) { w.Frame = mostFrame + 1 }),
		edit(func(w *api.World) { w.Frame = math.MaxInt64 }),
		edit(func(w *api.World) { w.Frame = math.MinInt64 }),
		edit(func(w *api.World) { w.Movers = nil }),
		edit(func(w *api.World) { w.Movers = w.Movers[:1] }),
		edit(func(w *api.World) { w.Movers = append(w.Movers, w.Movers[0]) }),
		edit(func(w *api.World) { w.Scores = nil }),
		edit(func(w *api.World) { w.Scores = w.Scores[:1] }),
		edit(func(w *api.World) { w.Scores = append(w.Scores, api.Score{}) }),
		edit(func(w *api.World) { w.Movers, w.Scores = w.Movers[:1], w.Scores[:1] }),
		edit(func(w *api.World) { w.Movers[0].Health = 0 }),
		edit(func(w *api.World) { w.Movers[1].Health = 101 }),
		edit(func(w *api.World) { w.Movers[1].Out = 1 }),
		edit(func(w *api.World) { w.Movers[1] = gone(at(1, 1), 31) }),
		edit(func(w *api.World) { w.Movers[1] = gone(at(1, 1), -1) }),
		edit(func(w *api.World) { w.Movers[1] = gone(at(1, 1), 1); w.Movers[1].Shield = true }),
		edit(func(w *api.World) { w.Movers[0].At.X = math.MinInt }),
		edit(func(w *api.World) { w.Movers[0].At.Y = bound + 1 }),
		edit(func(w *api.World) { w.Scores[1].Points = bound + 1 }),
		edit(func(w *api.World) { w.Scores[0].Hits = -1 }),
		edit(func(w *api.World) { w.Shots = []api.Shot{flier(1, 0, at(0, 0))} }),
		edit(func(w *api.World) { w.Shots, w.NextNo = []api.Shot{flier(1, 2, at(0, 0))}, 9 }),
		edit(func(w *api.World) { w.Shots, w.NextNo = []api.Shot{flier(1, 0, at(math.MaxInt, 0))}, 9 }),
		edit(func(w *api.World) {
			w.Shots, w.NextNo = []api.Shot{flier(2, 0, at(0, 0)), flier(1, 0, at(0, 0))}, 9
		}),
		edit(func(w *api.World) {
			for n := range 49 {
				w.Shots = append(w.Shots, flier(n+1, 0, at(0, 0)))
			}
			w.NextNo = 99
		}),
		edit(func(w *api.World) { w.Pickups = []api.Pickup{{No: 1, Spot: 0, Kind: 1}} }),
		edit(func(w *api.World) { w.Pickups, w.NextNo = []api.Pickup{{No: 1, Spot: 0, Kind: 0}}, 9 }),
		edit(func(w *api.World) { w.Pickups, w.NextNo = []api.Pickup{{No: 1, Spot: 0, Kind: 4}}, 9 }),
		edit(func(w *api.World) { w.Pickups, w.NextNo = []api.Pickup{{No: 1, Spot: 2, Kind: 1}}, 9 }),
		edit(func(w *api.World) { w.Pickups, w.NextNo = []api.Pickup{{No: 1, Spot: -1, Kind: 1}}, 9 }),
		edit(func(w *api.World) {
			w.Pickups, w.NextNo = []api.Pickup{{No: 1, Spot: 1, Kind: 1}, {No: 2, Spot: 1, Kind: 2}}, 9
		}),
		edit(func(w *api.World) { w.NextNo = 0 }),
		edit(func(w *api.World) { w.NextNo = mostNo + 2 }),
		begun(t, session(3, 3, 0, 2)),
		begun(t, six()),
	}
}

// TestP23_1Refused: sessions and worlds that may not be, each for itself, and both at once.
func TestP23_1Refused(t *testing.T) {
	c, w := two(), begun(t, two())
	for _, bad := range wrongSessions() {
		if world.Check(bad, w) == api.OK {
			t.Fatalf("%+v may be so", bad)
		}
		text, e := view.Show(bad, w)
		refused(t, fmt.Sprintf("the session %+v", bad), text, e)
		for _, worse := range wrongWorlds(t) {
			text, e := view.Show(bad, worse)
			refused(t, fmt.Sprintf("the session %+v with the world %+v", bad, worse), text, e)
		}
	}
	for _, bad := range wrongWorlds(t) {
		if world.Check(c, bad) == api.OK {
			t.Fatalf("%+v may be", bad)
		}
		text, e := view.Show(c, bad)
		refused(t, fmt.Sprintf("the world %+v", bad), text, e)
	}
	// What may be of another session.
	text, e := view.Show(six(), w)
	refused(t, "a world of two in a session of six", text, e)
	shown(t, c, w)
}
