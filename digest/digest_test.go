package digest_test

import (
	"hash/fnv"
	"math"
	"math/big"
	"math/rand"
	"slices"
	"testing"

	"echelon/digest"
)

// edges are numbers about which a bit comes in, and the least and the greatest ones.
func edges() []uint64 {
	all := []uint64{0, 1, 2, 255, math.MaxUint64, math.MaxUint64 - 1}
	for bit := range 64 {
		n := uint64(1) << bit
		all = append(all, n-1, n, n+1, ^n, -n)
	}
	return all
}

// numbers are the edges, and some more of all sizes.
func numbers(seed int64, more int) []uint64 {
	rnd := rand.New(rand.NewSource(seed))
	all := edges()
	for range more {
		all = append(all, rnd.Uint64()>>rnd.Intn(64))
	}
	return all
}

// someBytes are n bytes, no two runs of them alike.
func someBytes(n int) []byte {
	b := make([]byte, n)
	for i := range b {
		b[i] = byte(i*7 + i>>8)
	}
	return b
}

// The document's numbers, for arithmetic without bounds.
var (
	round   = new(big.Int).Lsh(big.NewInt(1), 64)
	mixOne  = decimal("13787848793156543929")
	mixTwo  = decimal("10723151780598845931")
	ofBegin = decimal("14695981039346656037")
	ofByte  = decimal("1099511628211")
	link    = decimal("11400714819323198485")
)

func decimal(s string) *big.Int {
	n, ok := new(big.Int).SetString(s, 10)
	if !ok {
		panic(s)
	}
	return n
}

func whole(n uint64) *big.Int { return new(big.Int).SetUint64(n) }

func plus(a, b *big.Int) *big.Int {
	n := new(big.Int).Add(a, b)
	return n.Mod(n, round)
}

func times(a, b *big.Int) *big.Int {
	n := new(big.Int).Mul(a, b)
	return n.Mod(n, round)
}

func turned(a, b *big.Int) *big.Int { return new(big.Int).Xor(a, b) }

func turnedByPart(n *big.Int, power int64) *big.Int {
	divisor := new(big.Int).Exp(big.NewInt(2), big.NewInt(power), nil)
	return turned(n, new(big.Int).Quo(n, divisor))
}

// meantMix, meantOf and meantChain are what P3.1 to P3.3 say, word by word.
func meantMix(n *big.Int) *big.Int {
	n = times(turnedByPart(n, 30), mixOne)
	n = times(turnedByPart(n, 27), mixTwo)
	return turnedByPart(n, 31)
}

func meantOf(b []byte) *big.Int {
	h := ofBegin
	for _, c := range b {
		h = times(turned(h, whole(uint64(c))), ofByte)
	}
	return meantMix(plus(h, whole(uint64(len(b)))))
}

func meantChain(ahead, next uint64) *big.Int {
	return meantMix(plus(times(whole(ahead), link), meantMix(whole(next))))
}

func TestP3_1Mix(t *testing.T) {
	if a, b := digest.Mix(0), digest.Mix(1); a != 0 || b != 6238072747940578789 {
		t.Errorf("Mix(0), Mix(1): %d, %d", a, b)
	}
	for _, n := range numbers(31, 20000) {
		if got, want := digest.Mix(n), meantMix(whole(n)); want.Cmp(whole(got)) != 0 {
			t.Fatalf("Mix(%d): %d, want %d", n, got, want)
		}
	}
}

func checkOf(t *testing.T, b []byte) {
	t.Helper()
	if got, want := digest.Of(b), meantOf(b); want.Cmp(whole(got)) != 0 {
		t.Errorf("Of(%.20x..), %d bytes: %d, want %d", b, len(b), got, want)
	}
}

func TestP3_2Of(t *testing.T) {
	if got := digest.Of([]byte{1, 2, 3}); got != 6488340815904684842 {
		t.Errorf("Of(1 2 3): %d", got)
	}
	checkOf(t, nil)
	checkOf(t, []byte{})
	for c := range 256 {
		checkOf(t, []byte{byte(c)})
		checkOf(t, []byte{byte(c), 0})
		checkOf(t, []byte{0, byte(c)})
	}
	for size := range 300 {
		checkOf(t, make([]byte, size))
		checkOf(t, someBytes(size))
	}
	checkOf(t, someBytes(100000))
}

func TestP3_2OfAtRandom(t *testing.T) {
	rnd := rand.New(rand.NewSource(32))
	for range 20000 {
		b := make([]byte, rnd.Intn(40))
		rnd.Read(b)
		checkOf(t, b)
	}
}

func TestP3_2OfManyBytes(t *testing.T) {
	b := someBytes(1<<22 + 5)
	h := fnv.New64a()
	h.Write(b)
	if got, want := digest.Of(b), digest.Mix(h.Sum64()+uint64(len(b))); got != want {
		t.Errorf("Of %d bytes: %d, want %d", len(b), got, want)
	}
}

func TestP3_2LeavesArgumentsAlone(t *testing.T) {
	room := someBytes(100)
	sum := digest.Of(room[10:60])
	if !slices.Equal(room, someBytes(100)) {
		t.Errorf("the bytes, or the room about them, are others: %x", room)
	}
	// The same bytes have the same sum, whatever the room behind them holds.
	clear(room[60:])
	if got := digest.Of(room[10:60]); got != sum {
		t.Errorf("again: %d, first %d", got, sum)
	}
	if got := digest.Of(slices.Clip(someBytes(100)[10:60])); got != sum {
		t.Errorf("without room behind them: %d, with it %d", got, sum)
	}
}

func checkChain(t *testing.T, ahead, next uint64) {
	t.Helper()
	if got, want := digest.Chain(ahead, next), meantChain(ahead, next); want.Cmp(whole(got)) != 0 {
		t.Errorf("Chain(%d, %d): %d, want %d", ahead, next, got, want)
	}
}

func TestP3_3Chain(t *testing.T) {
	if a, b := digest.Chain(0, 0), digest.Chain(1, 2); a != 0 || b != 4689417271487893854 {
		t.Errorf("Chain(0, 0), Chain(1, 2): %d, %d", a, b)
	}
	small := []uint64{0, 1, 2, math.MaxUint64}
	for _, n := range edges() {
		for _, m := range small {
			checkChain(t, n, m)
			checkChain(t, m, n)
		}
	}
	all := numbers(33, 20000)
	for i, n := range all {
		checkChain(t, n, all[len(all)-1-i])
	}
}

// unmix takes Mix back, last step first: so there is no number that two others are mixed to.
func unmix(n uint64) uint64 {
	n = unturned(n, 31) * inverse(mixTwo)
	n = unturned(n, 27) * inverse(mixOne)
	return unturned(n, 30)
}

// unturned takes back n turned by n / 2^power: the upper bits are there already, the ones below follow from them.
func unturned(n uint64, power int) uint64 {
	was := n
	for range 64 / power {
		was = n ^ was>>power
	}
	return was
}

func inverse(n *big.Int) uint64 { return new(big.Int).ModInverse(n, round).Uint64() }

func TestP3_6MixIsTakenBack(t *testing.T) {
	for _, n := range numbers(36, 100000) {
		if back := unmix(digest.Mix(n)); back != n {
			t.Fatalf("Mix(%d) is that of %d", n, back)
		}
		if again := digest.Mix(unmix(n)); again != n {
			t.Fatalf("no number is mixed to %d, but to %d", n, again)
		}
	}
}

func TestP3_6MixOfOthersIsAnother(t *testing.T) {
	from := map[uint64]uint64{}
	all := numbers(37, 200000)
	for n := range uint64(200000) {
		all = append(all, n, math.MaxUint64-n)
	}
	for _, n := range all {
		mixed := digest.Mix(n)
		if other, ok := from[mixed]; ok && other != n {
			t.Fatalf("Mix of %d and of %d: %d", n, other, mixed)
		}
		from[mixed] = n
	}
}
