package clone_test

import (
	"bytes"
	"fmt"
	"math"
	"math/rand"
	"slices"
	"testing"

	"echelon/api"
	"echelon/clone"
)

func wantDecode(t *testing.T, name string, c api.Config, b []byte, want api.World) {
	t.Helper()
	if w, e := clone.Decode(c, b); e != 0 || !same(w, want) {
		t.Errorf("%s: Decode(% x): %+v %d, not %+v", name, b, w, e, want)
	}
}

func wantNoDecode(t *testing.T, name string, c api.Config, b []byte, want api.Errno) {
	t.Helper()
	if w, e := clone.Decode(c, b); e != want || !same(w, api.World{}) {
		t.Errorf("%s: Decode(% x): %+v %d, not %d", name, b, w, e, want)
	}
}

// wantNoForm: such bytes are no world's, with their sum, and with another one.
func wantNoForm(t *testing.T, name string, c api.Config, body []byte) {
	t.Helper()
	b := sealed(body)
	wantNoDecode(t, name, c, b, 140)
	b[len(b)-1]++
	wantNoDecode(t, name+", another sum", c, b, 140)
}

// instead are pieces with another one at a place.
func instead(l [][]byte, place int, piece ...byte) []byte {
	l = slices.Clone(l)
	l[place] = piece
	return slices.Concat(l...)
}

func TestP14_3Examples(t *testing.T) {
	c := two()
	w := begun(t, c)
	b, _ := clone.Encode(c, w)
	wantDecode(t, "whole", c, b, w)
	wantNoDecode(t, "without its last byte", c, b[:len(b)-1], 140)
	b[len(b)-1] ^= 0x55
	wantNoDecode(t, "its last byte changed", c, b, 141)
	wantNoDecode(t, "nothing", c, nil, 140)
	wantNoDecode(t, "empty", c, []byte{}, 140)
}

func TestP14_3Edges(t *testing.T) {
	for _, c := range []api.Config{two(), six(), spotted()} {
		for name, w := range edges(t, c) {
			wantDecode(t, name, c, meantBytes(w), w)
		}
	}
	w := eightLying(t, spotted())
	wantDecode(t, "8 pickups", spotted(), meantBytes(w), w)
	w.Shots = fliers(48, 1)
	wantDecode(t, "8 pickups, 48 shots", spotted(), meantBytes(w), w)
}

// TestP14_3SpoiltSession: the session is asked first, whatever the bytes are.
func TestP14_3SpoiltSession(t *testing.T) {
	whole := meantBytes(busy(t, two()))
	wrong := slices.Clone(whole)
	wrong[len(wrong)-1]++
	for i, c := range spoiltSessions() {
		name := fmt.Sprintf("session %d", i)
		wantNoDecode(t, name, c, whole, 130)
		wantNoDecode(t, name+", nothing", c, nil, 130)
		wantNoDecode(t, name+", a byte less", c, whole[:len(whole)-1], 130)
		wantNoDecode(t, name+", a wrong sum", c, wrong, 130)
		wantNoDecode(t, name+", no such world", c, meantBytes(api.World{}), 130)
	}
}

// TestP14_3Few: of nothing, and of bytes that are the sum at most, or little more.
func TestP14_3Few(t *testing.T) {
	c := two()
	whole := meantBytes(busy(t, c))
	for n := range 12 {
		wantNoDecode(t, fmt.Sprintf("%d noughts", n), c, make([]byte, n), 140)
		wantNoDecode(t, fmt.Sprintf("the first %d", n), c, whole[:n], 140)
		wantNoDecode(t, fmt.Sprintf("the last %d", n), c, whole[len(whole)-n:], 140)
		wantNoDecode(t, fmt.Sprintf("%d times W", n), c, bytes.Repeat([]byte("W"), n), 140)
	}
	wantNoForm(t, "the sum of nothing", c, nil)
	wantNoForm(t, "the sum of W", c, []byte("W"))
	wantNoForm(t, "the sum of W and a frame", c, []byte("W\x00"))
}

// TestP14_3Lack: wherever the bytes end too early, with the sum of those that are there.
func TestP14_3Lack(t *testing.T) {
	for _, c := range []api.Config{two(), six()} {
		w := busy(t, c)
		body := meantBody(w)
		for n := range body {
			wantNoForm(t, fmt.Sprintf("the first %d", n), c, body[:n])
		}
		whole := meantBytes(w)
		for n := range whole {
			wantNoDecode(t, fmt.Sprintf("the first %d, and no sum", n), c, whole[:n], 140)
			wantNoDecode(t, fmt.Sprintf("all behind %d", n), c, whole[n+1:], 140)
		}
	}
}

func TestP14_3Left(t *testing.T) {
	c := two()
	w := busy(t, c)
	body := meantBody(w)
	for more := range 256 {
		wantNoForm(t, "a byte left", c, append(slices.Clone(body), byte(more)))
		wantNoForm(t, "a byte ahead", c, append([]byte{byte(more)}, body...))
	}
	wantNoForm(t, "twice", c, slices.Concat(body, body))
	wantNoForm(t, "a sum within", c, meantBytes(w))
	wantNoDecode(t, "a byte behind the sum", c, append(meantBytes(w), 0), 140)
}

func TestP14_3Head(t *testing.T) {
	c := two()
	w := busy(t, c)
	body := meantBody(w)
	for first := range 256 {
		body[0] = byte(first)
		if first == 'W' {
			wantDecode(t, "W", c, sealed(body), w)
		} else {
			wantNoForm(t, fmt.Sprintf("first byte %d", first), c, body)
		}
	}
}

func TestP14_3Flags(t *testing.T) {
	c := six()
	w := begun(t, c)
	l, flags, _ := pieces(w)
	if len(flags) != 6 {
		t.Fatal(flags)
	}
	for seat, place := range flags {
		for is := range 256 {
			b := instead(l, place, byte(is))
			if is > 1 {
				wantNoForm(t, fmt.Sprintf("Shield %d of %d", is, seat), c, b)
				continue
			}
			want := apart(w)
			want.Movers[seat].Shield = is == 1
			wantDecode(t, "Shield", c, sealed(b), want)
		}
	}
}

// tenth are nine bytes that say that more follow, and some more.
func tenth(more ...byte) []byte { return append(bytes.Repeat([]byte{0xff}, 9), more...) }

// TestP14_3NotWrittenSo: each number, in more bytes than it needs, and one that no number is.
func TestP14_3NotWrittenSo(t *testing.T) {
	c := two()
	w := busy(t, c)
	l, flags, _ := pieces(w)
	for place, piece := range l {
		name := fmt.Sprintf("piece %d", place)
		wide := slices.Clone(piece)
		wide[len(wide)-1] |= 0x80
		wantNoForm(t, name+" with a nought", c, instead(l, place, append(wide, 0)...))
		wantNoForm(t, name+" with two noughts", c, instead(l, place, append(wide, 0x80, 0)...))
		wantNoForm(t, name+" too great", c, instead(l, place, tenth(2)...))
		wantNoForm(t, name+" in eleven bytes", c, instead(l, place, tenth(0x81, 0)...))
		wantNoForm(t, name+" with a tenth nought", c, instead(l, place, tenth(0)...))
		if place > 0 && !slices.Contains(flags, place) {
			wantNoForm(t, name+" without a last byte", c, instead(l, place, wide...))
		}
	}
}

// TestP14_3AnyNumbers: numbers of any size are a world's form; which world may be is asked later.
func TestP14_3AnyNumbers(t *testing.T) {
	c := two()
	l, flags, counts := pieces(busy(t, c))
	for place := 1; place < len(l); place++ {
		if slices.Contains(flags, place) || slices.Contains(counts, place) {
			continue
		}
		for _, n := range []int{math.MinInt, math.MaxInt, math.MinInt32 - 1, math.MaxInt32 + 1 + 1<<40, -9999} {
			b := sealed(instead(l, place, signed(n)[0]...))
			want := api.Errno(131)
			if _, e := meantDecode(c, b); e == 0 { // a place, or points, may be -9999
				want = 0
			}
			if _, e := clone.Decode(c, b); e != want {
				t.Errorf("piece %d is %d: %d, not %d", place, n, e, want)
			}
			b[len(b)-1]++
			wantNoDecode(t, fmt.Sprintf("piece %d is %d, another sum", place, n), c, b, 141)
		}
	}
}

// TestP14_3Counts: counts for which there are too few bytes, or too many, up to the greatest number.
func TestP14_3Counts(t *testing.T) {
	c := two()
	w := busy(t, c)
	l, _, counts := pieces(w)
	for kind, place := range counts {
		for _, n := range []uint64{0, 1, 3, 4, 100, bound - 1, bound, bound + 1, 1 << 32, 1<<32 + 2, 1 << 61, 1<<61 + 2, 1 << 62, 1 << 63, 1<<63 + 2, math.MaxUint64 - 1, math.MaxUint64} {
			name := fmt.Sprintf("count %d of kind %d", n, kind)
			wantNoForm(t, name, c, instead(l, place, unsigned(n)...))
			wantNoForm(t, name+", nothing behind", c, slices.Concat(slices.Concat(l[:place]...), unsigned(n)))
			wantNoForm(t, name+", much behind", c, slices.Concat(slices.Concat(l[:place]...), unsigned(n), make([]byte, 1000)))
		}
		wantDecode(t, "as it was", c, sealed(instead(l, place, 2)), w)
	}
}

// TestP14_3CountsAtTheEdge: one shot or pickup more or less than there are bytes for, where each number is one byte.
func TestP14_3CountsAtTheEdge(t *testing.T) {
	c := two()
	w := begun(t, c)
	l, _, counts := pieces(w)
	shots, pickups := slices.Concat(l[:counts[0]]...), slices.Concat(l[:counts[1]]...)
	for n := range 60 {
		for size := 8*n - 2; size <= 8*n+12; size++ {
			b := slices.Concat(shots, unsigned(uint64(n)), make([]byte, max(size, 0)))
			want := api.Errno(140)
			if size == 8*n+2 {
				want = 131 // no pickups, and the next number is 0
			}
			wantNoDecode(t, fmt.Sprintf("%d shots, %d bytes", n, size), c, sealed(b), want)
		}
		for size := 3*n - 2; size <= 3*n+6; size++ {
			b := slices.Concat(pickups, unsigned(uint64(n)), make([]byte, max(size, 0)))
			want := api.Errno(140)
			if size == 3*n+1 {
				want = 131 // the next number is 0
			}
			wantNoDecode(t, fmt.Sprintf("%d pickups, %d bytes", n, size), c, sealed(b), want)
		}
	}
	many := slices.Concat(shots, unsigned(100000), make([]byte, 800000), []byte{0, 2})
	wantNoDecode(t, "100000 shots", c, sealed(many), 131)
	wantNoForm(t, "100000 shots, but for a byte", c, many[1:])
	wantNoForm(t, "100000 shots, and a byte", c, append(many, 0))
}

// TestP14_3Seats: the bytes of a world with fewer or more seats.
func TestP14_3Seats(t *testing.T) {
	for have := 2; have <= 6; have++ {
		w := begun(t, session(have, 1, 0, 2))
		for ask := 2; ask <= 6; ask++ {
			name := fmt.Sprintf("%d seats for %d", have, ask)
			c := session(ask, 1, 0, 2)
			if have == ask {
				wantDecode(t, name, c, meantBytes(w), w)
			} else {
				wantNoForm(t, name, c, meantBody(w))
			}
		}
	}
	for _, c := range []api.Config{two(), six(), spotted()} {
		for _, x := range spoils() {
			if w := busy(t, c); x.seats {
				x.do(&w)
				wantNoForm(t, x.name, c, meantBody(w))
			}
		}
	}
}

// TestP14_3Sum: a sum that is wrong anywhere, or written otherwise.
func TestP14_3Sum(t *testing.T) {
	c := two()
	w := busy(t, c)
	whole := meantBytes(w)
	n := len(whole)
	for bit := range 64 {
		b := slices.Clone(whole)
		b[n-8+bit/8] ^= 1 << (bit % 8)
		wantNoDecode(t, fmt.Sprintf("bit %d", bit), c, b, 141)
	}
	back := slices.Clone(whole)
	slices.Reverse(back[n-8:])
	wantNoDecode(t, "the highest first", c, back, 141)
	wantNoDecode(t, "noughts", c, append(meantBody(w), make([]byte, 8)...), 141)
	wantNoDecode(t, "another world's", c, append(meantBody(w), meantBytes(begun(t, c))[len(meantBody(begun(t, c))):]...), 141)
	wantDecode(t, "the right one", c, whole, w)
}

// TestP14_3SumOfAll: each byte ahead of the sum is in it.
func TestP14_3SumOfAll(t *testing.T) {
	c := two()
	w := busy(t, c)
	whole := meantBytes(w)
	seen := 0
	for place := range meantBody(w) {
		for bit := range 8 {
			b := slices.Clone(whole)
			b[place] ^= 1 << bit
			_, want := meantDecode(c, b)
			wantNoDecode(t, fmt.Sprintf("bit %d of byte %d", bit, place), c, b, want)
			if want == 141 {
				seen++
			}
		}
	}
	if seen < 300 {
		t.Errorf("only %d sums are wrong", seen)
	}
}

// TestP14_3SpoiltWorld: well written, but no world of the session.
func TestP14_3SpoiltWorld(t *testing.T) {
	for _, c := range []api.Config{two(), six(), spotted()} {
		for _, x := range spoils() {
			if x.seats {
				continue
			}
			w := busy(t, c)
			x.do(&w)
			b := meantBytes(w)
			wantNoDecode(t, x.name, c, b, 131)
			for _, place := range []int{len(b) - 8, len(b) - 1} {
				wrong := slices.Clone(b)
				wrong[place]++
				wantNoDecode(t, x.name+", a wrong sum", c, wrong, 141)
			}
			wantNoDecode(t, x.name+", a byte less", c, b[:len(b)-1], 140)
			wantNoForm(t, x.name+", a byte more", c, append(meantBody(w), 0))
			b[0]++
			wantNoDecode(t, x.name+", a wrong sum, another first byte", c, b, 140)
		}
	}
}

// TestP14_3OtherSession: what is a world of one session may be none of another one.
func TestP14_3OtherSession(t *testing.T) {
	c, d := session(3, 0, 0, 2), session(3, 3, 0, 5, 9)
	w := eightLying(t, c)
	wantDecode(t, "eight spots", c, meantBytes(w), w)
	wantNoDecode(t, "two spots", d, meantBytes(w), 131)
	w = busy(t, c)
	wantDecode(t, "both may be", d, meantBytes(w), w)
}

// someSpoilt are bytes that come of others by one or two small changes, with the right sum or without.
func someSpoilt(r *rand.Rand, b []byte) []byte {
	body := slices.Clone(b[:len(b)-8])
	for range 1 + r.Intn(2) {
		place := r.Intn(len(body))
		switch r.Intn(5) {
		case 0:
			body[place] ^= 1 << r.Intn(8)
		case 1:
			body[place] = byte(r.Intn(256))
		case 2:
			body = slices.Insert(body, place, byte(r.Intn(256)))
		case 3:
			body = slices.Delete(body, place, place+1)
		case 4:
			body = append(body[:place], body[min(place+r.Intn(4), len(body)):]...)
		}
		if len(body) == 0 {
			break
		}
	}
	out := sealed(body)
	if r.Intn(10) == 0 {
		out[len(out)-1-r.Intn(8)] ^= 1 << r.Intn(8)
	}
	return out
}

// TestP14_3Some: bytes that have been spoilt a little, against the chapter's words.
func TestP14_3Some(t *testing.T) {
	r := rand.New(rand.NewSource(144))
	told := map[api.Errno]int{}
	for range 15000 {
		c := someSession(r)
		b := someSpoilt(r, meantBytes(someWorld(r, c)))
		want, wantErrno := meantDecode(c, b)
		got, e := clone.Decode(c, b)
		if e != wantErrno || !same(got, want) {
			t.Fatalf("Decode(%+v, % x): %+v %d, not %+v %d", c, b, got, e, want, wantErrno)
		}
		told[e]++
	}
	for _, e := range []api.Errno{0, 131, 140, 141} {
		if told[e] < 200 {
			t.Errorf("only %d answers of error %d", told[e], e)
		}
	}
}

// TestP14_3AnyBytes: bytes without any sense.
func TestP14_3AnyBytes(t *testing.T) {
	r := rand.New(rand.NewSource(145))
	for range 5000 {
		c := someSession(r)
		body := make([]byte, r.Intn(300))
		for i := range body {
			body[i] = byte(r.Intn(256) >> r.Intn(8))
		}
		if len(body) > 0 {
			body[0] = 'W'
		}
		b := sealed(body)
		want, wantErrno := meantDecode(c, b)
		if got, e := clone.Decode(c, b); e != wantErrno || !same(got, want) {
			t.Fatalf("Decode(%+v, % x): %+v %d, not %+v %d", c, b, got, e, want, wantErrno)
		}
	}
}

// TestP14_3StayAsTheyWere: what is handed in is neither changed nor kept, the room behind its end neither; an answer is new memory.
func TestP14_3StayAsTheyWere(t *testing.T) {
	r := rand.New(rand.NewSource(146))
	for range 500 {
		c := someSession(r)
		c.Lags = roomy(c.Lags, 99)
		want := someWorld(r, c)
		whole := roomy(meantBytes(want), 0xaa)
		for _, b := range [][]byte{whole, whole[:len(whole)-1], whole[:len(whole)-9], whole[:3]} {
			before, lags := spare(b), spare(c.Lags)
			clone.Decode(c, b)
			if !bytes.Equal(spare(b), before) || !slices.Equal(spare(c.Lags), lags) {
				t.Fatalf("% x has become % x", before, spare(b))
			}
		}
		got, _ := clone.Decode(c, whole)
		other, _ := clone.Decode(c, whole)
		wipe(whole)
		wipeWorld(other)
		if !same(got, want) {
			t.Fatalf("%+v has become %+v", want, got)
		}
	}
}
