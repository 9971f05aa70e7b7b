package rng_test

import (
	"math"
	"math/big"
	"math/rand"
	"testing"

	"echelon/api"
	"echelon/digest"
	"echelon/rng"
)

// ask is what every call is asked with.
type ask struct {
	seed  uint64
	frame int64
	use   int
}

// asks are edges of all three, each with each, and some more of all sizes.
func asks(seed int64, more int) []ask {
	var all []ask
	for _, s := range []uint64{0, 1, 7, 1 << 63, math.MaxUint64} {
		for _, f := range []int64{0, 1, 2, -1, -2, api.MaxFrame, math.MaxInt64, math.MinInt64} {
			for _, u := range []int{0, 1, 3, -1, -3, math.MaxInt, math.MinInt} {
				all = append(all, ask{s, f, u})
			}
		}
	}
	rnd := rand.New(rand.NewSource(seed))
	for range more {
		all = append(all, ask{rnd.Uint64() >> rnd.Intn(64), int64(someInt(rnd)), someInt(rnd)})
	}
	return all
}

// someInt is one of any size, on either side of 0.
func someInt(rnd *rand.Rand) int { return int(rnd.Uint64()) >> rnd.Intn(64) }

// intEdges are those about which something changes.
func intEdges() []int {
	all := []int{math.MinInt, math.MinInt + 1, math.MaxInt - 1, math.MaxInt, -3, -2, -1, 0, 1, 2, 3, 10}
	for _, power := range []int{31, 32, 53, 62} {
		n := 1 << power
		all = append(all, n-1, n, n+1, -n-1, -n, -n+1)
	}
	return all
}

var round = new(big.Int).Lsh(big.NewInt(1), 64)

func whole(n int) *big.Int { return big.NewInt(int64(n)) }

// modulo is n modulo 2^64.
func modulo(n int64) uint64 { return new(big.Int).Mod(big.NewInt(n), round).Uint64() }

// meantNumber is what P4.1 says, word by word.
func meantNumber(a ask) uint64 {
	return digest.Chain(digest.Chain(a.seed, modulo(a.frame)), modulo(int64(a.use)))
}

// meantLeft is what is left of a number, divided by another one.
func meantLeft(number uint64, by *big.Int) *big.Int {
	return new(big.Int).Rem(new(big.Int).SetUint64(number), by)
}

func TestP4_1At(t *testing.T) {
	if a, b := rng.At(7, 1, 0), rng.At(7, 1, 3); a != 12824677043412347098 || b != 8141926043652153058 {
		t.Errorf("At(7, 1, 0), At(7, 1, 3): %d, %d", a, b)
	}
	for _, a := range asks(41, 20000) {
		if got, want := rng.At(a.seed, a.frame, a.use), meantNumber(a); got != want {
			t.Fatalf("At(%v): %d, want %d", a, got, want)
		}
	}
}

func TestP4_1AtOfOthers(t *testing.T) {
	seen := map[uint64]ask{}
	for seed := range uint64(20) {
		for frame := int64(-10); frame < 10; frame++ {
			for use := -10; use < 10; use++ {
				a, number := ask{seed, frame, use}, rng.At(seed, frame, use)
				if before, is := seen[number]; is {
					t.Fatalf("%v and %v have the same number", before, a)
				}
				seen[number] = a
			}
		}
	}
}

func checkBelow(t *testing.T, a ask, n int) {
	t.Helper()
	want, errno := 0, api.ErrRngNone
	if n >= 1 {
		want, errno = int(meantLeft(meantNumber(a), whole(n)).Int64()), api.OK
	}
	if got, e := rng.Below(a.seed, a.frame, a.use, n); got != want || e != errno {
		t.Fatalf("Below(%v, %d): %d %d, want %d %d", a, n, got, e, want, errno)
	}
}

func TestP4_2Below(t *testing.T) {
	for _, a := range asks(42, 200) {
		for _, n := range intEdges() {
			checkBelow(t, a, n)
		}
	}
	rnd := rand.New(rand.NewSource(42))
	for _, a := range asks(43, 20000) {
		checkBelow(t, a, someInt(rnd))
	}
}

// meantBetween is what P4.2 says of least and most, of which least is not above most.
func meantBetween(a ask, least, most int) int {
	number := meantNumber(a)
	many := new(big.Int).Sub(whole(most), whole(least))
	many.Add(many, big.NewInt(1))
	if many.Cmp(round) == 0 {
		return int(number)
	}
	return int(new(big.Int).Add(whole(least), meantLeft(number, many)).Int64())
}

func checkBetween(t *testing.T, a ask, least, most int) {
	t.Helper()
	want, errno := 0, api.ErrRngNone
	if least <= most {
		want, errno = meantBetween(a, least, most), api.OK
	}
	if got, e := rng.Between(a.seed, a.frame, a.use, least, most); got != want || e != errno {
		t.Fatalf("Between(%v, %d, %d): %d %d, want %d %d", a, least, most, got, e, want, errno)
	}
}

func TestP4_2Between(t *testing.T) {
	for _, a := range asks(44, 100) {
		for _, least := range intEdges() {
			for _, most := range intEdges() {
				checkBetween(t, a, least, most)
			}
		}
	}
	rnd := rand.New(rand.NewSource(44))
	for _, a := range asks(45, 20000) {
		checkBetween(t, a, someInt(rnd), someInt(rnd))
	}
}

func TestP4_2BetweenOfAllInt(t *testing.T) {
	got, errno := rng.Between(7, 1, 0, math.MinInt, math.MaxInt)
	if want := int(12824677043412347098 - math.MaxUint64 - 1); got != want || errno != api.OK {
		t.Errorf("%d %d, want %d", got, errno, want)
	}
	for _, a := range asks(46, 1000) {
		got, errno := rng.Between(a.seed, a.frame, a.use, math.MinInt, math.MaxInt)
		if uint64(got) != meantNumber(a) || errno != api.OK {
			t.Fatalf("%v: %d %d", a, got, errno)
		}
	}
}

func checkChance(t *testing.T, a ask, of, all int) {
	t.Helper()
	want, errno := false, api.OK
	switch {
	case all < 1:
		errno = api.ErrRngNone
	case of < 0 || of > all:
		errno = api.ErrArg
	default:
		want = meantLeft(meantNumber(a), whole(all)).Cmp(whole(of)) < 0
	}
	if got, e := rng.Chance(a.seed, a.frame, a.use, of, all); got != want || e != errno {
		t.Fatalf("Chance(%v, %d, %d): %v %d, want %v %d", a, of, all, got, e, want, errno)
	}
}

func TestP4_2Chance(t *testing.T) {
	for _, a := range asks(47, 100) {
		for _, all := range intEdges() {
			for _, of := range intEdges() {
				checkChance(t, a, of, all)
			}
		}
	}
	rnd := rand.New(rand.NewSource(47))
	for _, a := range asks(48, 20000) {
		all := someInt(rnd)
		checkChance(t, a, someInt(rnd), all)
		if all > 0 {
			checkChance(t, a, rnd.Intn(all), all)
		}
	}
}

// The least chance that comes true is one more than what is left of the number.
func TestP4_2ChanceTurnsAtWhatIsLeft(t *testing.T) {
	for _, a := range asks(49, 500) {
		for _, all := range []int{1, 2, 3, 100, api.MaxNum, math.MaxInt} {
			left := int(meantLeft(meantNumber(a), whole(all)).Int64())
			if is, errno := rng.Chance(a.seed, a.frame, a.use, left, all); is || errno != api.OK {
				t.Fatalf("Chance(%v, %d, %d): %v %d", a, left, all, is, errno)
			}
			if is, errno := rng.Chance(a.seed, a.frame, a.use, left+1, all); !is || errno != api.OK {
				t.Fatalf("Chance(%v, %d, %d): %v %d", a, left+1, all, is, errno)
			}
		}
	}
}

func TestP4_2ExamplesAndWhichErrorComesFirst(t *testing.T) {
	for _, c := range []struct {
		of, all int
		is      bool
		errno   api.Errno
	}{
		{0, 3, false, api.OK}, {3, 3, true, api.OK}, {4, 3, false, api.ErrArg}, {-1, 3, false, api.ErrArg},
		{0, 0, false, api.ErrRngNone}, {1, 0, false, api.ErrRngNone}, {-1, 0, false, api.ErrRngNone}, {0, -1, false, api.ErrRngNone},
		{-2, -1, false, api.ErrRngNone}, {9, 10, true, api.OK}, {8, 10, false, api.OK},
	} {
		if is, errno := rng.Chance(7, 1, 0, c.of, c.all); is != c.is || errno != c.errno {
			t.Errorf("Chance(7, 1, 0, %d, %d): %v %d", c.of, c.all, is, errno)
		}
	}
	for _, c := range []struct {
		least, most, one int
		errno            api.Errno
	}{{5, 5, 5, api.OK}, {5, 4, 0, api.ErrRngNone}, {-5, -5, -5, api.OK}, {math.MaxInt, math.MinInt, 0, api.ErrRngNone}} {
		if one, errno := rng.Between(7, 1, 0, c.least, c.most); one != c.one || errno != c.errno {
			t.Errorf("Between(7, 1, 0, %d, %d): %d %d", c.least, c.most, one, errno)
		}
	}
	for _, c := range []struct {
		n, one int
		errno  api.Errno
	}{{1, 0, api.OK}, {0, 0, api.ErrRngNone}, {-1, 0, api.ErrRngNone}, {10, 8, api.OK}} {
		if one, errno := rng.Below(7, 1, 0, c.n); one != c.one || errno != c.errno {
			t.Errorf("Below(7, 1, 0, %d): %d %d", c.n, one, errno)
		}
	}
}
