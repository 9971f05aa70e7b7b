package view_test

import (
	"fmt"
	"math"
	"math/rand"
	"slices"
	"sort"
	"strings"
	"testing"

	"echelon/api"
	"echelon/arena"
	"echelon/view"
	"echelon/world"
)

// The chapter read a second time, by other means.

// meantShow draws from the last to the first: what stands ahead is drawn over what stands behind it, and the walls over all.
func meantShow(c api.Config, w api.World) (string, api.Errno) {
	if world.CheckConfig(c) != 0 || world.Check(c, w) != 0 {
		return "", 230
	}
	cells := map[[2]int]string{}
	draw := func(p api.Point, sign string) {
		cells[[2]int{int(math.Floor(float64(p.X) / 4096)), int(math.Floor(float64(p.Y) / 4096))}] = sign
	}
	spots := arena.Spots(c.Arena)
	for _, p := range w.Pickups {
		draw(spots[p.Spot], map[int]string{1: "h", 2: "c", 3: "p"}[p.Kind])
	}
	for _, s := range w.Shots {
		draw(s.At, "o")
	}
	for seat := c.Peers - 1; seat >= 0; seat-- {
		if w.Movers[seat].Out == 0 {
			draw(w.Movers[seat].At, fmt.Sprintf("%c", 'A'+seat))
		}
	}
	text := fmt.Sprintf("frame %d\n", w.Frame)
	for at, sign := range c.Arena.Signs {
		col, row := at%c.Arena.Cols, at/c.Arena.Cols
		drawn, is := cells[[2]int{col, row}]
		switch {
		case sign == '#':
			text += "#"
		case is:
			text += drawn
		default:
			text += "."
		}
		if col == c.Arena.Cols-1 {
			text += "\n"
		}
	}
	for seat, m := range w.Movers {
		text += fmt.Sprintf("%c at %d,%d health %d energy %d points %d", 'A'+seat, m.At.X, m.At.Y, m.Health, m.Energy, w.Scores[seat].Points)
		if m.Shield {
			text += " shield"
		}
		if m.Out > 0 {
			text += fmt.Sprintf(" out %d", m.Out)
		}
		text += "\n"
	}
	return text, 0
}

func meantCorrect(before, after api.World) ([]api.Correction, api.Errno) {
	counts := map[int]int{}
	for _, n := range []int{len(before.Movers), len(after.Movers), len(before.Scores), len(after.Scores)} {
		counts[n]++
	}
	if len(counts) != 1 {
		return nil, 230
	}
	var all []api.Correction
	for seat, m := range before.Movers {
		n := after.Movers[seat]
		p, q := before.Scores[seat].Points, after.Scores[seat].Points
		if m.At.X == n.At.X && m.At.Y == n.At.Y && m.Health == n.Health && p == q {
			continue
		}
		all = append(all, api.Correction{Peer: seat, Before: m.At, After: n.At, Health: wrapped(n.Health, m.Health), Points: wrapped(q, p)})
	}
	return all, 0
}

// forms has how the kinds of notes are told, from 1 on: a and b are letters, A and B numbers, k the name of a kind.
var forms = []string{"a fired B", "a hit by b", "a out by b", "a back", "a took k", "spot A k", "a bounces b", "a says B"}

// meantNote is a note's line, and whether it has one: word by word out of its form.
func meantNote(n api.Note) (string, bool) {
	if n.Kind < 1 || n.Kind > len(forms) {
		return "", false
	}
	seats := map[int]string{0: "A", 1: "B", 2: "C", 3: "D", 4: "E", 5: "F"}
	kinds := map[int]string{1: "heal", 2: "charge", 3: "prize"}
	var out []string
	for _, word := range strings.Fields(forms[n.Kind-1]) {
		is := true
		switch word {
		case "a":
			word, is = seats[n.A]
		case "b":
			word, is = seats[n.B]
		case "k":
			word, is = kinds[n.B]
		case "A":
			word = fmt.Sprint(n.A)
		case "B":
			word = fmt.Sprint(n.B)
		}
		if !is {
			return "", false
		}
		out = append(out, word)
	}
	return strings.Join(out, " "), true
}

func meantNotes(l []api.Note) (string, api.Errno) {
	text := ""
	for _, n := range l {
		line, is := meantNote(n)
		if !is {
			return "", 230
		}
		text += line + "\n"
	}
	return text, 0
}

func meantTable(l []api.Score) (string, api.Errno) {
	var seats []int
	for seat, s := range l {
		if seat > 5 || s.Points < -bound || s.Points > bound || min(s.Hits, s.Outs, s.Streak) < 0 || max(s.Hits, s.Outs, s.Streak) > bound {
			return "", 230
		}
		seats = append(seats, seat)
	}
	sort.SliceStable(seats, func(i, j int) bool {
		a, b := l[seats[i]], l[seats[j]]
		if a.Points != b.Points {
			return a.Points > b.Points
		}
		if a.Outs != b.Outs {
			return a.Outs < b.Outs
		}
		return a.Hits > b.Hits
	})
	text := ""
	for place, seat := range seats {
		s := l[seat]
		text += fmt.Sprintf("%d %c points %d hits %d outs %d streak %d\n", place+1, 'A'+seat, s.Points, s.Hits, s.Outs, s.Streak)
	}
	return text, 0
}

func meantPrint(c api.Counters) string {
	return fmt.Sprintf("ticks %d stalls %d steps %d copies %d late %d sent %d got %d refused %d accepted %d", c.Ticks, c.Stalls, c.Steps, c.Copies, c.Late, c.Sent, c.Got, c.Refused, c.Accepted)
}

// someIn is a number of a range, often at its ends.
func someIn(r *rand.Rand, least, most int) int {
	switch r.Intn(5) {
	case 0:
		return least
	case 1:
		return most
	}
	return least + r.Intn(most-least+1)
}

// somePlace is mostly a point about the map, often at a cell's border; seldom one far from it.
func somePlace(r *rand.Rand, c api.Config) api.Point {
	if r.Intn(8) == 0 {
		return at(someIn(r, -bound, bound), someIn(r, -bound, bound))
	}
	col, row := r.Intn(c.Arena.Cols+4)-2, r.Intn(c.Arena.Rows+4)-2
	if r.Intn(2) == 0 { // few columns and rows, so that there is more than one thing in a cell
		col, row = 1+r.Intn(3), 1+r.Intn(2)
	}
	if spots := arena.Spots(c.Arena); r.Intn(4) == 0 {
		return spots[r.Intn(len(spots))]
	}
	return at(col*4096+someIn(r, 0, 4095), row*4096+someIn(r, 0, 4095))
}

func someMover(r *rand.Rand, c api.Config) api.Mover {
	p := somePlace(r, c)
	if r.Intn(4) == 0 {
		return gone(p, someIn(r, 1, 30))
	}
	return api.Mover{At: p, Facing: r.Intn(16), Health: someIn(r, 1, 100), Energy: someIn(r, 0, 100), Shield: r.Intn(2) == 0, Cool: r.Intn(13), Said: r.Intn(256)}
}

// someScore is one that may be, with few numbers now and then, so that some are alike.
func someScore(r *rand.Rand) api.Score {
	if r.Intn(2) == 0 {
		return api.Score{Points: r.Intn(3) - 1, Hits: r.Intn(2), Outs: r.Intn(2), Streak: r.Intn(3)}
	}
	return api.Score{Points: someIn(r, -bound, bound), Hits: someIn(r, 0, bound), Outs: someIn(r, 0, bound), Streak: someIn(r, 0, bound)}
}

// someWorld is one of the session.
func someWorld(r *rand.Rand, c api.Config) api.World {
	w := api.World{Frame: int64(someIn(r, 0, mostFrame))}
	for range c.Peers {
		w.Movers = append(w.Movers, someMover(r, c))
		w.Scores = append(w.Scores, someScore(r))
	}
	no := 0
	for range []int{0, 1, 3, 8, 48}[r.Intn(5)] {
		no++
		w.Shots = append(w.Shots, flier(no, r.Intn(c.Peers), somePlace(r, c)))
	}
	spots := len(arena.Spots(c.Arena))
	for _, spot := range r.Perm(spots)[:r.Intn(min(spots, 8)+1)] {
		no++
		w.Pickups = append(w.Pickups, api.Pickup{No: no, Spot: spot, Kind: 1 + r.Intn(3)})
	}
	w.NextNo = no + 1
	return w
}

func someSession(r *rand.Rand) api.Config {
	standard := r.Intn(4)
	return session(2+r.Intn([]int{3, 5, 5, 3}[standard]), standard, 0, 1+r.Intn(47))
}

// spoilt is a session and a world in which a number or a list is another one; now and then they may be, all the same.
func spoilt(r *rand.Rand, c api.Config, w api.World) (api.Config, api.World) {
	any := func() int { return ints[r.Intn(len(ints))] }
	seat := r.Intn(len(w.Movers))
	for range 1 + r.Intn(2) {
		switch r.Intn(12) {
		case 0:
			c.Peers = any()
		case 1:
			c.Lags = []int{any(), any()}
		case 2:
			c.Arena.Cols = any()
		case 3:
			c.Arena.Signs = c.Arena.Signs[:r.Intn(len(c.Arena.Signs))]
		case 4:
			w.Frame = int64(any())
		case 5:
			w.Movers = w.Movers[:seat]
		case 6:
			w.Scores = append(w.Scores, api.Score{})
		case 7:
			w.NextNo = any()
		case 8:
			w.Scores[seat].Points = any()
		case 9:
			w.Pickups = append(w.Pickups, api.Pickup{No: w.NextNo, Spot: any(), Kind: any()})
		case 10:
			w.Shots = append(w.Shots, flier(any(), any(), at(any(), any())))
		case 11:
			if seat < len(w.Movers) {
				w.Movers[seat].Out = any()
			}
		}
	}
	return c, w
}

// TestP23_1Meant: drawn worlds, right and wrong ones.
func TestP23_1Meant(t *testing.T) {
	r := rand.New(rand.NewSource(231))
	seen := map[api.Errno]int{}
	signs := map[rune]int{}
	for range 8000 {
		c := someSession(r)
		w := someWorld(r, c)
		if r.Intn(3) == 0 {
			c, w = spoilt(r, c, w)
		}
		want, wantErrno := meantShow(c, w)
		got, e := view.Show(c, w)
		if got != want || e != wantErrno {
			t.Fatalf("Show(%+v, %+v): %q %d, meant %q %d", c, w, got, e, want, wantErrno)
		}
		seen[e]++
		if e == api.OK {
			for _, sign := range strings.Join(lines(t, got)[1:1+c.Arena.Rows], "") {
				signs[sign]++
			}
		}
	}
	if seen[0] < 4000 || seen[230] < 1500 {
		t.Errorf("seen: %v", seen)
	}
	for _, sign := range "#.ABCDEFohcp" {
		if signs[sign] < 100 {
			t.Errorf("%c was seen %d times", sign, signs[sign])
		}
	}
	if len(signs) != 12 {
		t.Errorf("signs: %v", signs)
	}
}

// anyWorld is one of so many movers and scores, with whatever numbers.
func anyWorld(r *rand.Rand, movers, scores int) api.World {
	few := func() int {
		if r.Intn(3) == 0 {
			return ints[r.Intn(len(ints))]
		}
		return r.Intn(2)
	}
	w := sized(movers, scores)
	for seat := range w.Movers {
		w.Movers[seat] = api.Mover{At: at(few(), r.Intn(2)), Health: few(), Energy: few()}
	}
	for seat := range w.Scores {
		w.Scores[seat] = api.Score{Points: few(), Hits: few()}
	}
	return w
}

func TestP23_2Meant(t *testing.T) {
	r := rand.New(rand.NewSource(232))
	seen := map[api.Errno]int{}
	told := map[int]int{}
	for range 50000 {
		n := r.Intn(8)
		counts := []int{n, n, n, n}
		if r.Intn(3) == 0 {
			counts[r.Intn(4)] = r.Intn(8)
		}
		before, after := anyWorld(r, counts[0], counts[1]), anyWorld(r, counts[2], counts[3])
		want, wantErrno := meantCorrect(before, after)
		got, e := view.Correct(before, after)
		if !slices.Equal(got, want) || e != wantErrno {
			t.Fatalf("Correct(%+v, %+v): %+v %d, meant %+v %d", before, after, got, e, want, wantErrno)
		}
		seen[e]++
		told[len(got)]++
	}
	if seen[0] < 10000 || seen[230] < 10000 {
		t.Errorf("seen: %v", seen)
	}
	for n := range 8 {
		if told[n] < 100 {
			t.Errorf("%d corrections were told %d times", n, told[n])
		}
	}
}

func TestP23_3Meant(t *testing.T) {
	r := rand.New(rand.NewSource(233))
	seen := map[api.Errno]int{}
	for range 50000 {
		l := make([]api.Note, r.Intn(7))
		for i := range l {
			l[i] = api.Note{Kind: 1 + r.Intn(8), A: r.Intn(6), B: 1 + r.Intn(3)}
			if r.Intn(12) == 0 {
				*[]*int{&l[i].Kind, &l[i].A, &l[i].B}[r.Intn(3)] = ints[r.Intn(len(ints))]
			}
		}
		want, wantErrno := meantNotes(l)
		got, e := view.Notes(l)
		if got != want || e != wantErrno {
			t.Fatalf("Notes(%v): %q %d, meant %q %d", l, got, e, want, wantErrno)
		}
		if e == api.OK && len(lines(t, got)) != len(l) {
			t.Fatalf("Notes(%v): %q", l, got)
		}
		seen[e]++
	}
	if seen[0] < 10000 || seen[230] < 3000 {
		t.Errorf("seen: %v", seen)
	}
}

func TestP23_4Meant(t *testing.T) {
	r := rand.New(rand.NewSource(234))
	seen := map[api.Errno]int{}
	for range 50000 {
		l := make([]api.Score, r.Intn(8))
		for i := range l {
			l[i] = someScore(r)
			if r.Intn(25) == 0 {
				*[]*int{&l[i].Points, &l[i].Hits, &l[i].Outs, &l[i].Streak}[r.Intn(4)] = ints[r.Intn(len(ints))]
			}
		}
		want, wantErrno := meantTable(l)
		got, e := view.Table(l)
		if got != want || e != wantErrno {
			t.Fatalf("Table(%v): %q %d, meant %q %d", l, got, e, want, wantErrno)
		}
		if e == api.OK && len(lines(t, got)) != len(l) {
			t.Fatalf("Table(%v): %q", l, got)
		}
		seen[e]++
	}
	if seen[0] < 10000 || seen[230] < 5000 {
		t.Errorf("seen: %v", seen)
	}
}

func TestP23_5Meant(t *testing.T) {
	r := rand.New(rand.NewSource(235))
	for range 20000 {
		var n [9]int
		for i := range n {
			n[i] = int(r.Uint64()) >> r.Intn(64)
		}
		c := api.Counters{Ticks: n[0], Stalls: n[1], Steps: n[2], Copies: n[3], Late: n[4], Sent: n[5], Got: n[6], Refused: n[7], Accepted: n[8]}
		prints(t, c, meantPrint(c))
		if got := view.Print(c); strings.Contains(got, "\n") {
			t.Fatalf("Print(%+v): %q", c, got)
		}
	}
}
