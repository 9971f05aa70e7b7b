package shot_test

import (
	"math"
	"math/rand"
	"testing"

	"echelon/api"
	"echelon/shot"
)

const (
	bound  = 2147483647
	mostNo = 1099511627776
)

func at(x, y int) api.Point { return api.Point{X: x, Y: y} }

// with is a shot that is changed.
func with(s api.Shot, change func(s *api.Shot)) api.Shot {
	change(&s)
	return s
}

// plainShot is one that may be, with room on both sides of all its numbers.
func plainShot() api.Shot {
	return api.Shot{No: 7, Owner: 2, Power: 2, At: at(14336, 10240), Speed: at(300, -200), Left: 20}
}

// field is one of a shot's numbers, and what it may be.
type field struct {
	name        string
	least, most int
	set         func(s *api.Shot, n int)
}

func fields() []field {
	return []field{
		{"No", 1, mostNo, func(s *api.Shot, n int) { s.No = n }},
		{"Owner", 0, 5, func(s *api.Shot, n int) { s.Owner = n }},
		{"Power", 1, 3, func(s *api.Shot, n int) { s.Power = n }},
		{"At.X", -bound, bound, func(s *api.Shot, n int) { s.At.X = n }},
		{"At.Y", -bound, bound, func(s *api.Shot, n int) { s.At.Y = n }},
		{"Speed.X", -1536, 1536, func(s *api.Shot, n int) { s.Speed.X = n }},
		{"Speed.Y", -1536, 1536, func(s *api.Shot, n int) { s.Speed.Y = n }},
		{"Left", 1, 40, func(s *api.Shot, n int) { s.Left = n }},
	}
}

// around are the numbers at a field's ends and beyond them.
func (f field) around() []int {
	return []int{math.MinInt, math.MinInt + 1, -1 << 32, f.least - 1, f.least, f.least + 1, -1, 0, 1, f.most - 1, f.most, f.most + 1, 1 << 32, math.MaxInt - 1, math.MaxInt}
}

// meantMayBe is the chapter's 'A shot may be'.
func meantMayBe(s api.Shot) bool {
	for _, r := range [][3]int{
		{1, s.No, 1 << 40}, {0, s.Owner, 5}, {1, s.Power, 3},
		{-2147483647, s.At.X, 2147483647}, {-2147483647, s.At.Y, 2147483647},
		{-1536, s.Speed.X, 1536}, {-1536, s.Speed.Y, 1536}, {1, s.Left, 40},
	} {
		if r[1] < r[0] || r[1] > r[2] {
			return false
		}
	}
	return true
}

func askCheck(t *testing.T, s api.Shot) {
	t.Helper()
	want := api.Errno(90)
	if meantMayBe(s) {
		want = api.OK
	}
	if got := shot.Check(s); got != want {
		t.Errorf("Check(%+v): %d, not %d", s, got, want)
	}
}

// someIn is a number of a range, often at its ends.
func someIn(r *rand.Rand, least, most int) int {
	switch r.Intn(6) {
	case 0:
		return least
	case 1:
		return most
	case 2:
		return min(least+1, most)
	}
	return least + r.Intn(most-least+1)
}

// someShot is one that may be, mostly on a map.
func someShot(r *rand.Rand) api.Shot {
	s := api.Shot{
		No: someIn(r, 1, mostNo), Owner: someIn(r, 0, 5), Power: someIn(r, 1, 3), Left: someIn(r, 1, 40),
		At: at(someIn(r, 0, 60000), someIn(r, 0, 40000)), Speed: at(someIn(r, -1536, 1536), someIn(r, -1536, 1536)),
	}
	switch r.Intn(8) {
	case 0:
		s.At = at(someIn(r, -bound, bound), someIn(r, -bound, bound))
	case 1:
		s.Speed.X = 0
	case 2:
		s.Speed.Y = 0
	}
	return s
}

// spoilt are shots that may not be, each for one of its numbers.
func spoilt() []api.Shot {
	l := []api.Shot{{}}
	for _, f := range fields() {
		for _, n := range f.around() {
			if s := with(plainShot(), func(s *api.Shot) { f.set(s, n) }); n < f.least || n > f.most {
				l = append(l, s)
			}
		}
	}
	return l
}

func TestP9_1Check(t *testing.T) {
	for _, c := range []struct {
		s    api.Shot
		want api.Errno
	}{
		{plainShot(), api.OK}, {api.Shot{}, 90},
		{api.Shot{No: 1, Power: 1, Left: 1}, api.OK},
		{api.Shot{No: mostNo, Owner: 5, Power: 3, At: at(bound, bound), Speed: at(1536, 1536), Left: 40}, api.OK},
		{api.Shot{No: 1, Power: 1, At: at(-bound, -bound), Speed: at(-1536, -1536), Left: 1}, api.OK},
		{api.Shot{No: 0, Power: 1, Left: 1}, 90}, {api.Shot{No: 1, Power: 0, Left: 1}, 90}, {api.Shot{No: 1, Power: 1, Left: 0}, 90},
		{api.Shot{No: mostNo + 1, Power: 1, Left: 1}, 90}, {api.Shot{No: 1, Power: 4, Left: 1}, 90}, {api.Shot{No: 1, Power: 1, Left: 41}, 90},
		{api.Shot{No: 1, Owner: -1, Power: 1, Left: 1}, 90}, {api.Shot{No: 1, Owner: 6, Power: 1, Left: 1}, 90},
	} {
		if got := shot.Check(c.s); got != c.want {
			t.Errorf("Check(%+v): %d, not %d", c.s, got, c.want)
		}
	}
}

func TestP9_1CheckEdges(t *testing.T) {
	for _, f := range fields() {
		for _, n := range f.around() {
			want := api.Errno(90)
			if f.least <= n && n <= f.most {
				want = api.OK
			}
			for _, base := range []api.Shot{plainShot(), {No: 1, Power: 1, Left: 1}, {No: mostNo, Owner: 5, Power: 3, At: at(bound, -bound), Speed: at(-1536, 1536), Left: 40}} {
				s := with(base, func(s *api.Shot) { f.set(s, n) })
				if got := shot.Check(s); got != want {
					t.Errorf("Check with %s %d: %d, not %d", f.name, n, got, want)
				}
			}
		}
	}
}

// TestP9_1CheckTwo has two numbers at their edges at one time.
func TestP9_1CheckTwo(t *testing.T) {
	for _, f := range fields() {
		for _, g := range fields() {
			for _, n := range f.around() {
				for _, k := range g.around() {
					askCheck(t, with(plainShot(), func(s *api.Shot) { f.set(s, n); g.set(s, k) }))
				}
			}
		}
	}
}

func TestP9_1CheckSome(t *testing.T) {
	r := rand.New(rand.NewSource(91))
	l := fields()
	for range 50000 {
		s := someShot(r)
		if e := shot.Check(s); e != api.OK {
			t.Errorf("Check(%+v): %d", s, e)
		}
		f := l[r.Intn(len(l))]
		f.set(&s, f.least+r.Intn(3*(f.most-f.least+1))-(f.most-f.least+1))
		askCheck(t, s)
	}
}

func TestP9_1Damage(t *testing.T) {
	for power, want := range map[int]int{
		1: 15, 2: 30, 3: 45, 0: 0, 4: 0, -1: 0, -2: 0, -3: 0, 5: 0, 100: 0, 257: 0, 1<<32 + 1: 0, 1 << 60: 0, 1<<60 + 1: 0, -1 << 60: 0,
		math.MinInt: 0, math.MinInt + 1: 0, math.MaxInt: 0, math.MaxInt - 1: 0,
	} {
		if got := shot.Damage(power); got != want {
			t.Errorf("Damage(%d): %d, not %d", power, got, want)
		}
	}
	for power := -1000; power <= 1000; power++ {
		if power >= 1 && power <= 3 {
			continue
		}
		if got := shot.Damage(power); got != 0 {
			t.Errorf("Damage(%d): %d", power, got)
		}
	}
}
