package arena_test

import (
	"math"
	"math/rand"
	"strings"
	"testing"

	"echelon/api"
	"echelon/arena"
)

const signs = "#.123456*"

// rowsOf is the map of these rows, as they are.
func rowsOf(rows ...string) api.Arena {
	return api.Arena{Cols: len(rows[0]), Rows: len(rows), Signs: strings.Join(rows, "")}
}

// walled is a map whose inner cells have these signs, with walls about them.
func walled(inner ...string) api.Arena {
	edge := strings.Repeat("#", len(inner[0])+2)
	rows := []string{edge}
	for _, row := range inner {
		rows = append(rows, "#"+row+"#")
	}
	return rowsOf(append(rows, edge)...)
}

// sized is a map with so many columns and rows: free, with two starts if there is room.
func sized(cols, rows int) api.Arena {
	all := []byte(strings.Repeat("#", cols*rows))
	for at := range all {
		if col, row := at%cols, at/cols; col > 0 && col < cols-1 && row > 0 && row < rows-1 {
			all[at] = '.'
		}
	}
	text := strings.Replace(string(all), ".", "1", 1)
	return api.Arena{Cols: cols, Rows: rows, Signs: strings.Replace(text, ".", "2", 1)}
}

func with(a api.Arena, at int, sign byte) api.Arena {
	all := []byte(a.Signs)
	all[at] = sign
	a.Signs = string(all)
	return a
}

func standard(t *testing.T, n int) api.Arena {
	t.Helper()
	a, errno := arena.Standard(n)
	if errno != api.OK {
		t.Fatalf("Standard(%d): %d", n, errno)
	}
	return a
}

// What the words of the chapter say, sentence by sentence.

func meantState(a api.Arena) bool {
	if a.Cols < 3 || a.Cols > 32 || a.Rows < 3 || a.Rows > 24 || len(a.Signs) != a.Cols*a.Rows {
		return false
	}
	spots := 0
	for at, sign := range []byte(a.Signs) {
		if !strings.Contains(signs, string(rune(sign))) {
			return false
		}
		col, row := at%a.Cols, at/a.Cols
		if (col == 0 || row == 0 || col == a.Cols-1 || row == a.Rows-1) && sign != '#' {
			return false
		}
		if sign == '*' {
			spots++
		}
	}
	return spots <= 16
}

// meantReached goes on from the first start, from one cell to the next, till nothing comes to it.
func meantReached(a api.Arena) []bool {
	reached := make([]bool, len(a.Signs))
	for at, sign := range []byte(a.Signs) {
		reached[at] = sign == '1'
	}
	for more := true; more; {
		more = false
		for at, sign := range []byte(a.Signs) {
			if sign == '#' || reached[at] {
				continue
			}
			if reached[at-1] || reached[at+1] || reached[at-a.Cols] || reached[at+a.Cols] {
				reached[at], more = true, true
			}
		}
	}
	return reached
}

func meantStart(a api.Arena) bool {
	is := false
	for most := 2; most <= 6; most++ {
		each := true
		for n := 1; n <= 6; n++ {
			want := 1
			if n > most {
				want = 0
			}
			each = each && strings.Count(a.Signs, string(rune('0'+n))) == want
		}
		is = is || each
	}
	if !is {
		return false
	}
	for at, reached := range meantReached(a) {
		if strings.Contains("123456*", a.Signs[at:at+1]) && !reached {
			return false
		}
	}
	return true
}

func meantCheck(a api.Arena) api.Errno {
	if !meantState(a) {
		return 61
	}
	if !meantStart(a) {
		return 62
	}
	return 0
}

func meantMiddles(a api.Arena, sign string) []api.Point {
	var all []api.Point
	for row := range a.Rows {
		for col := range a.Cols {
			if a.Signs[row*a.Cols+col] == sign[0] {
				all = append(all, api.Point{X: 4096*col + 2048, Y: 4096*row + 2048})
			}
		}
	}
	return all
}

func meantStarts(a api.Arena) []api.Point {
	if meantCheck(a) != 0 {
		return nil
	}
	var all []api.Point
	for _, sign := range []string{"1", "2", "3", "4", "5", "6"} {
		found := meantMiddles(a, sign)
		if len(found) == 0 {
			break
		}
		all = append(all, found[0])
	}
	return all
}

func meantSpots(a api.Arena) []api.Point {
	if meantCheck(a) != 0 {
		return nil
	}
	return meantMiddles(a, "*")
}

func samePoints(a, b []api.Point) bool {
	if len(a) != len(b) {
		return false
	}
	for i := range a {
		if a[i] != b[i] {
			return false
		}
	}
	return true
}

// checkMap holds all that is told of a map against what is meant.
func checkMap(t *testing.T, a api.Arena) {
	t.Helper()
	want := meantCheck(a)
	if got := arena.Check(a); got != want {
		t.Fatalf("Check(%v): %d, want %d", a, got, want)
	}
	if got, want := arena.Starts(a), meantStarts(a); !samePoints(got, want) {
		t.Fatalf("Starts(%v): %v, want %v", a, got, want)
	}
	if got, want := arena.Spots(a), meantSpots(a); !samePoints(got, want) {
		t.Fatalf("Spots(%v): %v, want %v", a, got, want)
	}
	text, errno := arena.Print(a)
	if errno != want || errno != api.OK && text != "" {
		t.Fatalf("Print(%v): %q, %d, want %d", a, text, errno, want)
	}
	if want != api.OK {
		return
	}
	if meant := meantPrint(a); text != meant {
		t.Fatalf("Print(%v): %q, want %q", a, text, meant)
	}
	if again, errno, line := arena.Parse(text); again != a || errno != api.OK || line != 0 {
		t.Fatalf("Parse of Print(%v): %v, %d, %d", a, again, errno, line)
	}
}

func spotsInRow(n int) string { return "12" + strings.Repeat("*", n) + strings.Repeat(".", 20-n) }

func TestP6_1Check(t *testing.T) {
	few, many := sized(5, 5), sized(5, 5)
	few.Signs = few.Signs[:24]
	many.Signs += "#"
	for _, c := range []struct {
		name string
		a    api.Arena
		want api.Errno
	}{
		{"nothing", api.Arena{}, 61},
		{"2 columns", rowsOf("##", "##", "##", "##"), 61}, {"3 columns", walled("1", "2"), 0}, {"32 columns", sized(32, 5), 0}, {"33 columns", sized(33, 5), 61},
		{"2 rows", rowsOf("####", "####"), 61}, {"3 rows", walled("12"), 0}, {"24 rows", sized(5, 24), 0}, {"25 rows", sized(5, 25), 61},
		{"32 columns and 24 rows", sized(32, 24), 0}, {"33 columns and 25 rows", sized(33, 25), 61}, {"24 columns and 32 rows", sized(24, 32), 61},
		{"one cell", walled("1"), 62}, {"fewer signs", few, 61}, {"more signs", many, 61}, {"no signs", api.Arena{Cols: 4, Rows: 3}, 61},
		{"a product that goes round to 0", api.Arena{Cols: 1 << 32, Rows: 1 << 32}, 61}, {"great sides", api.Arena{Cols: math.MaxInt, Rows: math.MaxInt, Signs: "#"}, 61}, {"great columns", api.Arena{Cols: math.MaxInt, Rows: 3, Signs: "#"}, 61}, {"great rows", api.Arena{Cols: 3, Rows: math.MaxInt, Signs: "#"}, 61},
		{"negative sides", api.Arena{Cols: -4, Rows: -3, Signs: walled("12").Signs}, 61}, {"least sides", api.Arena{Cols: math.MinInt, Rows: math.MinInt}, 61}, {"negative columns", api.Arena{Cols: -4, Rows: 3}, 61}, {"negative rows", api.Arena{Cols: 4, Rows: -3}, 61}, {"no columns", api.Arena{Cols: 0, Rows: 3}, 61}, {"no rows", api.Arena{Cols: 3, Rows: 0}, 61},
		{"a 0", walled("120"), 61}, {"a 7", walled("127"), 61}, {"a line feed", walled("12\n"), 61}, {"a space", walled("12 "), 61}, {"a byte 0", walled("12\x00"), 61}, {"a byte 255", walled("12\xff"), 61}, {"a long rune", walled("12é"), 61},
		{"16 spots", walled(spotsInRow(16)), 0}, {"17 spots", walled(spotsInRow(17)), 61}, {"17 spots and no start", walled(strings.Repeat("*", 17)), 61}, {"16 spots and no start", walled(strings.Repeat("*", 16)), 62},
		{"a start in the edge", rowsOf("####", "#122", "####"), 61}, {"a spot in the edge", rowsOf("#*##", "#12#", "####"), 61}, {"a hole and no start", rowsOf("####", "#...", "####"), 61},
		{"no start", walled("..."), 62}, {"1 alone", walled("1.."), 62}, {"2 alone", walled("2.."), 62}, {"1 missing", walled("23."), 62}, {"1 and 3", walled("1.3"), 62}, {"1, 2 and 4", walled("124"), 62}, {"1 to 4 and 6", walled("12346"), 62}, {"6 alone beside 1 and 2", walled("12.6"), 62},
		{"all six", walled("654321"), 0}, {"1 twice", walled("1.12"), 62}, {"2 twice", walled("122"), 62}, {"6 twice", walled("1234566"), 62}, {"3 twice", walled("123.3"), 62},
		{"2 walled off", walled("1#2"), 62}, {"3 walled off", walled("12#3"), 62}, {"1 walled off", walled("23#1"), 62}, {"a spot walled off", walled("12#*"), 62}, {"a free cell walled off", walled("12#."), 0}, {"corner to corner", walled("1#", "#2"), 62}, {"around a corner", walled("1#", ".2"), 0}, {"behind a wall, a row further", walled(".1#", "#2."), 0}, {"from a row's end to the next one's beginning", walled("#1", "2#"), 62},
		{"through starts and spots", walled("1*3#", "##2*"), 0}, {"a long way", walled("1....", "####.", "2...."), 0}, {"a way to the left and upwards", walled("2...#", "###..", "*..#.", "##...", "3#..1"), 62}, {"in all four directions", walled("2....", "####.", "3...1", ".####", "*...."), 0},
	} {
		if got := arena.Check(c.a); got != c.want {
			t.Errorf("%s: %d, want %d", c.name, got, c.want)
		}
		checkMap(t, c.a)
	}
}

func TestP6_1CheckSigns(t *testing.T) {
	a := walled("12.", "...", "..3")
	for at := range len(a.Signs) {
		for sign := range 256 {
			checkMap(t, with(a, at, byte(sign)))
		}
	}
}

func TestP6_1CheckSides(t *testing.T) {
	for cols := 1; cols <= 40; cols++ {
		for rows := 1; rows <= 40; rows++ {
			a := sized(cols, rows)
			checkMap(t, a)
			checkMap(t, api.Arena{Cols: rows, Rows: cols, Signs: a.Signs})
			checkMap(t, api.Arena{Cols: cols, Rows: rows, Signs: a.Signs[1:]})
			checkMap(t, api.Arena{Cols: cols, Rows: rows, Signs: a.Signs + "#"})
		}
	}
}

// allInner calls each with all texts of so many signs.
func allInner(n int, each func(string)) {
	if n == 0 {
		each("")
		return
	}
	allInner(n-1, func(text string) {
		for _, sign := range signs {
			each(text + string(sign))
		}
	})
}

func TestP6_1CheckAllSmall(t *testing.T) {
	allInner(4, func(text string) {
		checkMap(t, walled(text))
		checkMap(t, walled(text[:2], text[2:]))
		checkMap(t, walled(text[:1], text[1:2], text[2:3], text[3:]))
	})
}

// someMap is one of any size up to the limits; with starts and spots, of which most are reached.
func someMap(rnd *rand.Rand) api.Arena {
	cols, rows := 3+rnd.Intn(30), 3+rnd.Intn(22)
	if rnd.Intn(2) == 0 {
		cols, rows = 3+rnd.Intn(6), 3+rnd.Intn(6)
	}
	a := sized(cols, rows)
	all := []byte(strings.NewReplacer("1", ".", "2", ".").Replace(a.Signs))
	var inner []int
	for at, sign := range all {
		if sign == '.' {
			inner = append(inner, at)
		}
	}
	for range rnd.Intn(len(inner)/2 + 1) {
		all[inner[rnd.Intn(len(inner))]] = '#'
	}
	for range rnd.Intn(19) {
		all[inner[rnd.Intn(len(inner))]] = '*'
	}
	for n := range 2 + rnd.Intn(5) {
		all[inner[rnd.Intn(len(inner))]] = byte('1' + n)
	}
	a.Signs = string(all)
	if rnd.Intn(8) == 0 {
		a = with(a, rnd.Intn(len(all)), signs[rnd.Intn(len(signs))])
	}
	return a
}

// goodMaps are such as may be.
func goodMaps(seed int64, n int) []api.Arena {
	rnd := rand.New(rand.NewSource(seed))
	var all []api.Arena
	for len(all) < n {
		if a := someMap(rnd); meantCheck(a) == 0 {
			all = append(all, a)
		}
	}
	return all
}

func TestP6_1CheckSome(t *testing.T) {
	rnd := rand.New(rand.NewSource(61))
	found := [3]int{}
	for range 20000 {
		a := someMap(rnd)
		checkMap(t, a)
		switch meantCheck(a) {
		case 0:
			found[0]++
		case 61:
			found[1]++
		case 62:
			found[2]++
		}
	}
	if found[0] < 500 || found[1] < 500 || found[2] < 500 {
		t.Errorf("the maps are too much alike: %v", found)
	}
}

func TestP6_3Standard(t *testing.T) {
	maps := [4]api.Arena{
		rowsOf("################", "#1............2#", "#..##......##..#", "#..#...**...#..#", "#......##......#", "#..*........*..#", "#..*........*..#", "#......##......#", "#..#...**...#..#", "#..##......##..#", "#3............4#", "################"),
		rowsOf("####################", "#1........3.......2#", "#..###..*....*..##.#", "#..#.......#.......#", "#.....*....#....*..#", "#..........#.......#", "#..##..*......*.##.#", "#4........6.......5#", "####################"),
		rowsOf("############", "#1...##...2#", "#.*......*.#", "#...#..#...#", "#5..#..#..6#", "#...#..#...#", "#.*......*.#", "#3...##...4#", "############"),
		rowsOf("########", "#1....2#", "#..**..#", "#......#", "#3....4#", "########"),
	}
	for n, want := range maps {
		if got, errno := arena.Standard(n); got != want || errno != api.OK {
			t.Errorf("Standard(%d): %v, %d", n, got, errno)
		}
	}
	for _, n := range []int{math.MinInt, -4, -1, 4, 5, 256, 1 << 32, math.MaxInt} {
		if got, errno := arena.Standard(n); got != (api.Arena{}) || errno != api.ErrArg {
			t.Errorf("Standard(%d): %v, %d", n, got, errno)
		}
	}
}

func TestP6_4StartsAndSpots(t *testing.T) {
	a := standard(t, 3)
	if got, want := arena.Starts(a), []api.Point{{X: 6144, Y: 6144}, {X: 26624, Y: 6144}, {X: 6144, Y: 18432}, {X: 26624, Y: 18432}}; !samePoints(got, want) {
		t.Errorf("Starts of map 3: %v", got)
	}
	if got, want := arena.Spots(a), []api.Point{{X: 14336, Y: 10240}, {X: 18432, Y: 10240}}; !samePoints(got, want) {
		t.Errorf("Spots of map 3: %v", got)
	}
	// The starts go by their signs, the spots row by row.
	a = walled("*3*", "2*1")
	if got, want := arena.Starts(a), []api.Point{{X: 14336, Y: 10240}, {X: 6144, Y: 10240}, {X: 10240, Y: 6144}}; !samePoints(got, want) {
		t.Errorf("Starts(%v): %v", a, got)
	}
	if got, want := arena.Spots(a), []api.Point{{X: 6144, Y: 6144}, {X: 14336, Y: 6144}, {X: 10240, Y: 10240}}; !samePoints(got, want) {
		t.Errorf("Spots(%v): %v", a, got)
	}
	if got := arena.Spots(walled("12")); len(got) != 0 {
		t.Errorf("Spots of a map without: %v", got)
	}
	for _, none := range []api.Arena{{}, walled("1*"), walled("1*12"), walled("12*4"), walled("12#*"), rowsOf("####", "#12*", "####"), walled(spotsInRow(17)), {Cols: math.MaxInt, Rows: math.MaxInt, Signs: "12*"}, {Cols: -3, Rows: -3, Signs: "12*......"}} {
		if starts, spots := arena.Starts(none), arena.Spots(none); len(starts) != 0 || len(spots) != 0 {
			t.Errorf("%v: starts %v, spots %v", none, starts, spots)
		}
	}
}

func TestP6_4AnswersAreNewMemory(t *testing.T) {
	a := standard(t, 1)
	for _, call := range []func(api.Arena) []api.Point{arena.Starts, arena.Spots} {
		first, second, want := call(a), call(a), call(a)
		for i := range first[:cap(first)] {
			first[:cap(first)][i] = api.Point{X: -1, Y: -1}
		}
		if !samePoints(second, want) || !samePoints(call(a), want) {
			t.Errorf("an answer was changed by way of another one: %v", second)
		}
	}
}

func TestP6_8StandardMapsMayBe(t *testing.T) {
	for n, want := range [4]int{4, 6, 6, 4} {
		a := standard(t, n)
		checkMap(t, a)
		if errno, starts := arena.Check(a), len(arena.Starts(a)); errno != api.OK || starts != want {
			t.Errorf("map %d: %d, %d starts", n, errno, starts)
		}
	}
}
