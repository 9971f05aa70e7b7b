package code_test

import (
	"bytes"
	"encoding/binary"
	"math"
	"math/rand"
	"slices"
	"strings"
	"testing"

	"echelon/api"
	"echelon/code"
)

// meantUint is what P2.4 says of a number at the beginning of bytes, read by other means than the reader's.
func meantUint(b []byte) (uint64, int, api.Errno) {
	if len(b) > 9 && b[9] > 1 && !slices.ContainsFunc(b[:9], func(c byte) bool { return c < 0x80 }) {
		return 0, 0, api.ErrCodeForm
	}
	n, size := binary.Uvarint(b)
	if size == 0 {
		return 0, 0, api.ErrCodeShort
	}
	if size < 0 || size != len(binary.AppendUvarint(nil, n)) {
		return 0, 0, api.ErrCodeForm
	}
	return n, size, api.OK
}

// model is a reader by the document's words.
type model struct {
	b     []byte
	place int
	errno api.Errno
}

func (m *model) uint() uint64 {
	if m.errno != api.OK {
		return 0
	}
	n, size, errno := meantUint(m.b[m.place:])
	m.place += size
	m.errno = errno
	return n
}

func (m *model) int() int64 {
	n := m.uint()
	return int64(n>>1) ^ -int64(n&1)
}

func (m *model) byte() byte {
	if m.errno != api.OK {
		return 0
	}
	if m.place == len(m.b) {
		m.errno = api.ErrCodeShort
		return 0
	}
	m.place++
	return m.b[m.place-1]
}

func (m *model) bytes(most int) []byte {
	was := *m
	n := m.uint()
	switch {
	case m.errno != api.OK:
		return nil
	case most < 0 || n > uint64(most):
		*m = was
		m.errno = api.ErrCodeLong
		return nil
	case n > uint64(len(m.b)-m.place):
		*m = was
		m.errno = api.ErrCodeShort
		return nil
	}
	m.place += int(n)
	return m.b[m.place-int(n) : m.place]
}

func (m *model) done() api.Errno {
	if m.errno == api.OK && m.place < len(m.b) {
		return api.ErrCodeMore
	}
	return m.errno
}

func checkReader(t *testing.T, what any, r *code.Reader, left int, errno api.Errno) {
	t.Helper()
	for range 2 {
		if r.Left() != left || r.Done() != errno {
			t.Errorf("%.40x: Left %d, Done %d, want %d, %d", what, r.Left(), r.Done(), left, errno)
		}
	}
}

func checkNumbers(t *testing.T, b []byte) {
	t.Helper()
	m := model{b: b}
	r := code.NewReader(b)
	if got, want := r.Uint(), m.uint(); got != want {
		t.Errorf("%x: Uint is %d, want %d", b, got, want)
	}
	checkReader(t, b, r, len(b)-m.place, m.done())

	m = model{b: b}
	r = code.NewReader(b)
	if got, want := r.Int(), m.int(); got != want {
		t.Errorf("%x: Int is %d, want %d", b, got, want)
	}
	checkReader(t, b, r, len(b)-m.place, m.done())
}

func TestP2_4NewReader(t *testing.T) {
	checkReader(t, "nil", code.NewReader(nil), 0, api.OK)
	checkReader(t, "empty", code.NewReader([]byte{}), 0, api.OK)
	checkReader(t, "one", code.NewReader([]byte{0x80}), 1, api.ErrCodeMore)
	checkReader(t, "many", code.NewReader(make([]byte, 100000)), 100000, api.ErrCodeMore)
}

func TestP2_4Numbers(t *testing.T) {
	high := strings.Repeat("\xff", 9)
	low := strings.Repeat("\x80", 9)
	for _, c := range []struct {
		b     string
		n     uint64
		left  int
		errno api.Errno
	}{
		{"\x00", 0, 0, api.OK}, {"\x05", 5, 0, api.OK}, {"\x05\x06", 5, 1, api.ErrCodeMore}, {"\xac\x02", 300, 0, api.OK}, {"\x00\x00", 0, 1, api.ErrCodeMore},
		{"", 0, 0, api.ErrCodeShort}, {"\x80", 0, 1, api.ErrCodeShort}, {"\xff\xff", 0, 2, api.ErrCodeShort}, {high, 0, 9, api.ErrCodeShort}, {low, 0, 9, api.ErrCodeShort},
		{"\x80\x00", 0, 2, api.ErrCodeForm}, {"\xff\x00", 0, 2, api.ErrCodeForm}, {"\xac\x82\x00\x07", 0, 4, api.ErrCodeForm}, {"\x80\x80\x00", 0, 3, api.ErrCodeForm},
		{high + "\x01", math.MaxUint64, 0, api.OK}, {low + "\x01", 1 << 63, 0, api.OK}, {high + "\x01\xff", math.MaxUint64, 1, api.ErrCodeMore},
		{high + "\x00", 0, 10, api.ErrCodeForm}, {low + "\x00", 0, 10, api.ErrCodeForm}, {high + "\x02", 0, 10, api.ErrCodeForm}, {low + "\x02", 0, 10, api.ErrCodeForm}, {high + "\x7f", 0, 10, api.ErrCodeForm},
		{high + "\x80", 0, 10, api.ErrCodeForm}, {low + "\x80", 0, 10, api.ErrCodeForm}, {low + "\x81", 0, 10, api.ErrCodeForm}, {high + "\xff", 0, 10, api.ErrCodeForm}, {high + "\x80\x00", 0, 11, api.ErrCodeForm}, {low + "\x81\x01", 0, 11, api.ErrCodeForm},
		{high[1:] + "\x7f", 1<<63 - 1, 0, api.OK}, {high[1:] + "\x00", 0, 9, api.ErrCodeForm}, {strings.Repeat("\xff", 1000), 0, 1000, api.ErrCodeForm},
	} {
		r := code.NewReader([]byte(c.b))
		if n := r.Uint(); n != c.n {
			t.Errorf("%.20x: %d, want %d", c.b, n, c.n)
		}
		checkReader(t, c.b, r, c.left, c.errno)
		checkNumbers(t, []byte(c.b))
	}
	for b, want := range map[string]int64{
		"\x00": 0, "\x01": -1, "\x02": 1, "\x03": -2, "\x7f": -64, "\x80\x01": 64, high + "\x01": math.MinInt64, "\xfe" + high[1:] + "\x01": math.MaxInt64,
	} {
		r := code.NewReader([]byte(b))
		if n := r.Int(); n != want {
			t.Errorf("%x: Int is %d, want %d", b, n, want)
		}
		checkReader(t, b, r, 0, api.OK)
	}
}

func TestP2_4EveryShortNumber(t *testing.T) {
	for a := range 256 {
		checkNumbers(t, []byte{byte(a)})
		for b := range 256 {
			checkNumbers(t, []byte{byte(a), byte(b)})
			checkNumbers(t, []byte{byte(a), 0x80, byte(b)})
		}
	}
	for size := range 13 {
		for last := range 256 {
			for _, c := range []byte{0x80, 0x81, 0xc0, 0xff} {
				b := append(bytes.Repeat([]byte{c}, size), byte(last))
				checkNumbers(t, b)
				checkNumbers(t, append(b, 0))
			}
		}
	}
}

func TestP2_4Byte(t *testing.T) {
	all := make([]byte, 256)
	for i := range all {
		all[i] = byte(i)
	}
	r := code.NewReader(all)
	for i, want := range all {
		if got := r.Byte(); got != want || r.Left() != 255-i {
			t.Errorf("%d: %d, Left %d", want, got, r.Left())
		}
	}
	checkReader(t, "all taken up", r, 0, api.OK)
	if got := r.Byte(); got != 0 {
		t.Errorf("none: %d", got)
	}
	checkReader(t, "none", r, 0, api.ErrCodeShort)
}

func TestP2_4Bytes(t *testing.T) {
	beyond := strings.Repeat("\xff", 9) + "\x01"
	for _, c := range []struct {
		b     string
		most  int
		want  string
		left  int
		errno api.Errno
	}{
		{"\x02ab", 2, "ab", 0, api.OK}, {"\x02ab", 3, "ab", 0, api.OK}, {"\x02ab", math.MaxInt, "ab", 0, api.OK}, {"\x02abc", 2, "ab", 1, api.ErrCodeMore}, {"\x00", 0, "", 0, api.OK}, {"\x00x", 0, "", 1, api.ErrCodeMore},
		{"\x02ab", 1, "", 3, api.ErrCodeLong}, {"\x02ab", 0, "", 3, api.ErrCodeLong}, {"\x01a", 0, "", 2, api.ErrCodeLong},
		{"\x00", -1, "", 1, api.ErrCodeLong}, {"\x00", math.MinInt, "", 1, api.ErrCodeLong}, {"\x02ab", -1, "", 3, api.ErrCodeLong}, {"\x02a", -1, "", 2, api.ErrCodeLong},
		{"", 5, "", 0, api.ErrCodeShort}, {"\x82", 5, "", 1, api.ErrCodeShort}, {"\x82\x00ab", 5, "", 4, api.ErrCodeForm}, {beyond[:9] + "\x02", 5, "", 10, api.ErrCodeForm},
		{"", -1, "", 0, api.ErrCodeShort}, {"\x82", -1, "", 1, api.ErrCodeShort}, {"\x82\x00ab", -1, "", 4, api.ErrCodeForm},
		{"\x03ab", 2, "", 3, api.ErrCodeLong}, {"\x03ab", 3, "", 3, api.ErrCodeShort}, {"\x01", 1, "", 1, api.ErrCodeShort}, {"\x03ab", math.MaxInt, "", 3, api.ErrCodeShort},
		{beyond, math.MaxInt, "", 10, api.ErrCodeLong}, {beyond, -1, "", 10, api.ErrCodeLong}, {beyond[:8] + "\x7f", math.MaxInt, "", 9, api.ErrCodeShort}, {strings.Repeat("\x80", 9) + "\x01", math.MaxInt, "", 10, api.ErrCodeLong}, {"\xff\xff\xff\xff\x0fab", 1 << 40, "", 7, api.ErrCodeShort},
	} {
		r := code.NewReader([]byte(c.b))
		if got := r.Bytes(c.most); string(got) != c.want {
			t.Errorf("%x, %d: %x, want %x", c.b, c.most, got, c.want)
		}
		checkReader(t, c.b, r, c.left, c.errno)
	}
}

func TestP2_4ErrorForEver(t *testing.T) {
	for _, c := range []struct {
		b     string
		spoil func(r *code.Reader)
		left  int
		errno api.Errno
	}{
		{"\x80\x00\x05\x01a", func(r *code.Reader) { r.Uint() }, 5, api.ErrCodeForm},
		{"\x80\x00\x05\x01a", func(r *code.Reader) { r.Int() }, 5, api.ErrCodeForm},
		{"\x01a\x05", func(r *code.Reader) { r.Bytes(0) }, 3, api.ErrCodeLong},
		{"\x05a\x05", func(r *code.Reader) { r.Bytes(5) }, 3, api.ErrCodeShort},
		{"\x05\x80", func(r *code.Reader) { r.Byte(); r.Uint() }, 1, api.ErrCodeShort},
		{"", func(r *code.Reader) { r.Byte() }, 0, api.ErrCodeShort},
	} {
		r := code.NewReader([]byte(c.b))
		c.spoil(r)
		checkReader(t, c.b, r, c.left, c.errno)
		for range 3 {
			if n := r.Uint(); n != 0 {
				t.Errorf("%x: Uint behind the error is %d", c.b, n)
			}
			checkReader(t, c.b, r, c.left, c.errno)
			if n := r.Int(); n != 0 {
				t.Errorf("%x: Int behind the error is %d", c.b, n)
			}
			checkReader(t, c.b, r, c.left, c.errno)
			if b := r.Byte(); b != 0 {
				t.Errorf("%x: Byte behind the error is %d", c.b, b)
			}
			checkReader(t, c.b, r, c.left, c.errno)
			if b := r.Bytes(100); len(b) != 0 {
				t.Errorf("%x: Bytes behind the error is %x", c.b, b)
			}
			checkReader(t, c.b, r, c.left, c.errno)
		}
	}
}

func TestP2_4LeavesArgumentsAlone(t *testing.T) {
	whole := []byte("\x02ab\x02cd\x05\x06xyz")
	r := code.NewReader(whole[:8])
	r.Bytes(2)
	spoil(r.Bytes(2))
	if string(whole) != "\x02ab\x02cd\x05\x06xyz" {
		t.Errorf("changed: %x", whole)
	}
	copy(whole, "???????????")
	if n := r.Uint(); n != 5 || r.Byte() != 6 {
		t.Errorf("kept hold of what was handed in: %d", n)
	}
	checkReader(t, "all taken up", r, 0, api.OK)
}

func TestP2_4AnswersAreNew(t *testing.T) {
	r := code.NewReader([]byte("\x02ab\x02cd\x00\x01e"))
	first, second := r.Bytes(9), r.Bytes(9)
	spoil(first)
	if string(second) != "cd" {
		t.Errorf("two answers share memory: %x", second)
	}
	spoil(second)
	spoil(r.Bytes(9))
	if last := r.Bytes(9); string(last) != "e" {
		t.Errorf("an answer shares memory with the reader: %x", last)
	}
	checkReader(t, "all taken up", r, 0, api.OK)
}

func TestP2_4ReadersApart(t *testing.T) {
	b := []byte{5, 6}
	first, second := code.NewReader(b), code.NewReader(b)
	first.Byte()
	first.Bytes(0)
	checkReader(t, "first", first, 1, api.ErrCodeLong)
	checkReader(t, "second", second, 2, api.ErrCodeMore)
	if n := second.Uint(); n != 5 {
		t.Errorf("second: %d", n)
	}
}

// unruly are bytes in which forms, and what is nearly one, stand often.
func unruly(rnd *rand.Rand) []byte {
	b := make([]byte, rnd.Intn(24))
	for i := range b {
		switch rnd.Intn(4) {
		case 0:
			b[i] = byte(rnd.Intn(4))
		case 1:
			b[i] = 0x80 | byte(rnd.Intn(3))
		case 2:
			b[i] = 0xff
		default:
			b[i] = byte(rnd.Intn(256))
		}
	}
	return b
}

func TestP2_4Scripts(t *testing.T) {
	rnd := rand.New(rand.NewSource(24))
	for range 100000 {
		b := unruly(rnd)
		r, m := code.NewReader(b), model{b: b}
		for range 6 {
			same := true
			switch rnd.Intn(4) {
			case 0:
				same = r.Uint() == m.uint()
			case 1:
				same = r.Int() == m.int()
			case 2:
				same = r.Byte() == m.byte()
			default:
				most := rnd.Intn(8) - 1
				same = bytes.Equal(r.Bytes(most), m.bytes(most))
			}
			if !same || r.Left() != len(b)-m.place || r.Done() != m.done() {
				t.Fatalf("%x: Left %d, Done %d, want %d, %d", b, r.Left(), r.Done(), len(b)-m.place, m.done())
			}
		}
	}
}

func TestP2_5ChangeNothing(t *testing.T) {
	r := code.NewReader([]byte("\x05\xac\x02\x01a"))
	checkReader(t, "untouched", r, 5, api.ErrCodeMore)
	if b := r.Byte(); b != 5 {
		t.Errorf("Byte behind Done is %d: ErrCodeMore stayed", b)
	}
	checkReader(t, "one taken up", r, 4, api.ErrCodeMore)
	if n := r.Uint(); n != 300 {
		t.Errorf("Uint behind Done is %d: ErrCodeMore stayed", n)
	}
	checkReader(t, "two taken up", r, 2, api.ErrCodeMore)
	if b := r.Bytes(1); string(b) != "a" {
		t.Errorf("Bytes behind Done is %x: ErrCodeMore stayed", b)
	}
	checkReader(t, "all taken up", r, 0, api.OK)
	r.Byte()
	checkReader(t, "one too many", r, 0, api.ErrCodeShort)
}

// An error stands ahead of the bytes that are left, and is there without any left.
func TestP2_5ErrorAheadOfMore(t *testing.T) {
	r := code.NewReader([]byte{1, 0x80, 0, 1})
	r.Byte()
	r.Int()
	checkReader(t, "left behind an error", r, 3, api.ErrCodeForm)
	r = code.NewReader(nil)
	r.Bytes(3)
	checkReader(t, "none left", r, 0, api.ErrCodeShort)
}
