package code_test

import (
	"bytes"
	"encoding/binary"
	"math"
	"math/rand"
	"testing"

	"echelon/api"
	"echelon/code"
)

// edges are numbers about which the form's width or its highest bit changes.
func edges() []uint64 {
	all := []uint64{0, 1, 2, 300, math.MaxUint64, math.MaxUint64 - 1}
	for bit := range 64 {
		n := uint64(1) << bit
		all = append(all, n-1, n, n+1, n|n>>1, ^n)
	}
	return all
}

// thing is something to lay down, and its form by other means than the writer's.
type thing struct {
	name string
	lay  func(w *code.Writer)
	form []byte
}

func uintThing(n uint64) thing {
	return thing{"Uint", func(w *code.Writer) { w.Uint(n) }, binary.AppendUvarint(nil, n)}
}

func intThing(n int64) thing {
	return thing{"Int", func(w *code.Writer) { w.Int(n) }, binary.AppendVarint(nil, n)}
}

func byteThing(b byte) thing {
	return thing{"Byte", func(w *code.Writer) { w.Byte(b) }, []byte{b}}
}

func bytesThing(b []byte) thing {
	return thing{"Bytes", func(w *code.Writer) { w.Bytes(b) }, append(binary.AppendUvarint(nil, uint64(len(b))), b...)}
}

// someBytes are n bytes, no two runs of them alike.
func someBytes(n int) []byte {
	b := make([]byte, n)
	for i := range b {
		b[i] = byte(i*7 + i>>8)
	}
	return b
}

func things() []thing {
	var all []thing
	for _, n := range edges() {
		all = append(all, uintThing(n), intThing(int64(n)))
	}
	for b := range 256 {
		all = append(all, byteThing(byte(b)))
	}
	for _, n := range []int{0, 1, 2, 126, 127, 128, 129, 300, 16382, 16383, 16384, 16385, 70000} {
		all = append(all, bytesThing(someBytes(n)))
	}
	return all
}

func checkWriter(t *testing.T, what string, w *code.Writer, want []byte, wantErrno api.Errno) {
	t.Helper()
	got, errno := w.Done()
	if !bytes.Equal(got, want) || errno != wantErrno {
		t.Errorf("%s: Done is %.40x %d, want %.40x %d", what, got, errno, want, wantErrno)
	}
}

func TestP2_1NewWriter(t *testing.T) {
	for _, most := range []int{math.MinInt, -1000, -1, 0, 1, 2, 1000, math.MaxInt - 1, math.MaxInt} {
		checkWriter(t, "new", code.NewWriter(most), nil, api.OK)
	}
	for _, most := range []int{math.MinInt, -1 << 32, -1, 0} {
		w := code.NewWriter(most)
		w.Byte(0)
		checkWriter(t, "no room", w, nil, api.ErrCodeLong)
	}
	for most := range 300 {
		w := code.NewWriter(most)
		for range most {
			w.Byte('x')
		}
		checkWriter(t, "full", w, bytes.Repeat([]byte("x"), most), api.OK)
		w.Byte('x')
		checkWriter(t, "beyond", w, nil, api.ErrCodeLong)
	}
	w := code.NewWriter(math.MaxInt)
	w.Bytes(someBytes(100000))
	checkWriter(t, "wide room", w, bytesThing(someBytes(100000)).form, api.OK)
}

func TestP2_2WrittenNumbers(t *testing.T) {
	for _, c := range []struct {
		n    uint64
		want string
	}{
		{0, "\x00"}, {1, "\x01"}, {127, "\x7f"}, {128, "\x80\x01"}, {129, "\x81\x01"}, {300, "\xac\x02"}, {16383, "\xff\x7f"}, {16384, "\x80\x80\x01"},
		{1<<63 - 1, "\xff\xff\xff\xff\xff\xff\xff\xff\x7f"}, {1 << 63, "\x80\x80\x80\x80\x80\x80\x80\x80\x80\x01"}, {math.MaxUint64, "\xff\xff\xff\xff\xff\xff\xff\xff\xff\x01"},
	} {
		w := code.NewWriter(10)
		w.Uint(c.n)
		checkWriter(t, "Uint", w, []byte(c.want), api.OK)
	}
	for _, c := range []struct {
		n    int64
		want string
	}{
		{0, "\x00"}, {-1, "\x01"}, {1, "\x02"}, {-2, "\x03"}, {63, "\x7e"}, {-64, "\x7f"}, {64, "\x80\x01"}, {-65, "\x81\x01"},
		{math.MaxInt64, "\xfe\xff\xff\xff\xff\xff\xff\xff\xff\x01"}, {math.MinInt64, "\xff\xff\xff\xff\xff\xff\xff\xff\xff\x01"}, {math.MinInt64 + 1, "\xfd\xff\xff\xff\xff\xff\xff\xff\xff\x01"},
	} {
		w := code.NewWriter(10)
		w.Int(c.n)
		checkWriter(t, "Int", w, []byte(c.want), api.OK)
	}
}

func TestP2_2WrittenBytes(t *testing.T) {
	w := code.NewWriter(100)
	w.Bytes([]byte("ab"))
	checkWriter(t, "ab", w, []byte("\x02ab"), api.OK)
	w.Bytes(nil)
	checkWriter(t, "nil", w, []byte("\x02ab\x00"), api.OK)
	w.Bytes([]byte{})
	checkWriter(t, "empty", w, []byte("\x02ab\x00\x00"), api.OK)
	w.Byte('c')
	checkWriter(t, "behind what is there", w, []byte("\x02ab\x00\x00c"), api.OK)
}

func TestP2_2Room(t *testing.T) {
	ahead := []byte("ahead")
	for _, c := range things() {
		for _, there := range [][]byte{nil, ahead} {
			begin := func(room int) *code.Writer {
				w := code.NewWriter(room)
				for _, b := range there {
					w.Byte(b)
				}
				return w
			}
			all := append(bytes.Clone(there), c.form...)

			w := begin(len(all) + 1)
			c.lay(w)
			checkWriter(t, c.name+", a byte of room left", w, all, api.OK)

			w = begin(len(all))
			c.lay(w)
			checkWriter(t, c.name+", room to the byte", w, all, api.OK)
			w.Byte(1)
			checkWriter(t, c.name+", a byte beyond", w, nil, api.ErrCodeLong)

			w = begin(len(all) - 1)
			c.lay(w)
			checkWriter(t, c.name+", one byte too few", w, nil, api.ErrCodeLong)
		}
	}
}

func TestP2_2ErrorForEver(t *testing.T) {
	for _, c := range things() {
		w := code.NewWriter(len(c.form) - 1)
		c.lay(w)
		for range 3 {
			// All of these would have room if the error did not stay.
			w.Byte(0)
			w.Uint(0)
			w.Int(0)
			w.Bytes(nil)
			checkWriter(t, c.name+", small things behind the error", w, nil, api.ErrCodeLong)
		}
	}
	w := code.NewWriter(3)
	w.Byte(9)
	w.Bytes([]byte("abc"))
	for range 3 {
		w.Byte(1)
		checkWriter(t, "room that was left", w, nil, api.ErrCodeLong)
	}
}

func TestP2_2LeavesArgumentsAlone(t *testing.T) {
	whole := []byte("abcdefgh")
	w := code.NewWriter(100)
	w.Bytes(whole[2:4])
	w.Byte('z')
	if string(whole) != "abcdefgh" {
		t.Errorf("changed: %q", whole)
	}
	copy(whole, "????????")
	w.Byte('y')
	checkWriter(t, "kept hold of what was handed in", w, []byte("\x02cdzy"), api.OK)

	full := code.NewWriter(1)
	full.Bytes(whole[:4])
	if string(whole) != "????????" {
		t.Errorf("changed beside an error: %q", whole)
	}
}

// Against a plain model: what was laid down, until it is too much.
func TestP2_2Scripts(t *testing.T) {
	rnd := rand.New(rand.NewSource(22))
	all := things()
	small := all[:0:0]
	for _, c := range all {
		if len(c.form) < 20 {
			small = append(small, c)
		}
	}
	for range 3000 {
		room := rnd.Intn(60)
		w := code.NewWriter(room)
		var laid []byte
		errno := api.OK
		for range 12 {
			c := small[rnd.Intn(len(small))]
			c.lay(w)
			if laid = append(laid, c.form...); len(laid) > room {
				errno = api.ErrCodeLong
			}
			if errno != api.OK {
				laid = nil
			}
			checkWriter(t, "script", w, laid, errno)
		}
	}
}

func TestP2_3DoneChangesNothing(t *testing.T) {
	w := code.NewWriter(3)
	checkWriter(t, "nothing yet", w, nil, api.OK)
	checkWriter(t, "nothing yet, again", w, nil, api.OK)
	w.Uint(300)
	checkWriter(t, "first", w, []byte("\xac\x02"), api.OK)
	checkWriter(t, "again", w, []byte("\xac\x02"), api.OK)
	w.Byte(7)
	checkWriter(t, "gone on", w, []byte("\xac\x02\x07"), api.OK)
	checkWriter(t, "gone on, again", w, []byte("\xac\x02\x07"), api.OK)
	w.Byte(1)
	for range 3 {
		checkWriter(t, "error", w, nil, api.ErrCodeLong)
	}
}

// spoil overwrites a list and the spare room behind it.
func spoil(b []byte) {
	b = b[:cap(b)]
	for i := range b {
		b[i] ^= 0xff
	}
}

func TestP2_3AnswersAreNew(t *testing.T) {
	for _, size := range []int{0, 1, 2, 3, 7, 8, 9, 31, 33, 100, 1000} {
		w := code.NewWriter(5000)
		want := someBytes(size)
		for _, b := range want {
			w.Byte(b)
		}
		first, _ := w.Done()
		second, _ := w.Done()
		spoil(first)
		if !bytes.Equal(second, want) {
			t.Errorf("%d: two answers share memory", size)
		}
		checkWriter(t, "answer shares memory with the writer", w, want, api.OK)
		third, _ := w.Done()
		w.Bytes(someBytes(50))
		if !bytes.Equal(third, want) {
			t.Errorf("%d: going on changes an answer", size)
		}
		spoil(third)
		checkWriter(t, "behind it", w, append(want, bytesThing(someBytes(50)).form...), api.OK)
	}
}

func TestP2_3WritersApart(t *testing.T) {
	a, b := code.NewWriter(2), code.NewWriter(2)
	a.Byte(1)
	b.Byte(2)
	a.Uint(300)
	checkWriter(t, "a", a, nil, api.ErrCodeLong)
	checkWriter(t, "b", b, []byte{2}, api.OK)
}
