package wire_test

import (
	"bytes"
	"fmt"
	"math"
	"math/rand"
	"slices"
	"testing"

	"echelon/api"
	"echelon/wire"
)

func wantDecode(t *testing.T, name string, b []byte, want api.Datagram) {
	t.Helper()
	if d, e := wire.Decode(b); e != 0 || !same(d, want) {
		t.Errorf("%s: Decode(% x): %+v %d, not %+v", name, b, d, e, want)
	}
}

func wantNoDecode(t *testing.T, name string, b []byte, want api.Errno) {
	t.Helper()
	if d, e := wire.Decode(b); e != want || !same(d, api.Datagram{}) {
		t.Errorf("%s: Decode(% x): %+v %d, not %d", name, b, d, e, want)
	}
}

// wantRefused: such bytes, with their sum, have this error; with another sum this one.
func wantRefused(t *testing.T, name string, body []byte, want api.Errno) {
	t.Helper()
	b := sealed(body)
	wantNoDecode(t, name, b, want)
	b[len(b)-1]++
	wantNoDecode(t, name+", another sum", b, 161)
}

// wantMeant: such bytes, with their sum, are what the chapter says; the error is answered.
func wantMeant(t *testing.T, name string, body []byte) api.Errno {
	t.Helper()
	d, e := meantDecode(sealed(body))
	if e == 0 {
		wantDecode(t, name, sealed(body), d)
	} else {
		wantRefused(t, name, body, e)
	}
	return e
}

// instead are pieces with another one at a place.
func instead(l [][]byte, place int, piece ...byte) []byte {
	l = slices.Clone(l)
	l[place] = piece
	return slices.Concat(l...)
}

func TestP16_3Examples(t *testing.T) {
	wantDecode(t, "an Ack", sealed(ahead(t, "65 02 02 01 00 00 00 00 00 00 01 00 05")), ack())
	wantDecode(t, "a Turn", sealed(ahead(t, "65 01 00 00 00 00 00 00 00 00 00 01 03 01 01 04 01 0f 02 00")), turn())
	wantNoDecode(t, "nothing", nil, 160)
	wantNoDecode(t, "empty", []byte{}, 160)
	wantNoDecode(t, "eight noughts", make([]byte, 8), 161)
}

// TestP16_3Edges: the bytes of what may be say it; those of what may not be are refused, or say something else, where a number has no room.
func TestP16_3Edges(t *testing.T) {
	for _, x := range edges() {
		if x.may {
			wantDecode(t, x.name, meantBytes(x.d), x.d)
		} else {
			wantMeant(t, x.name, meantBody(x.d))
		}
	}
}

// TestP16_3Few: seven bytes are no datagram's, whatever they are; eight are a sum.
func TestP16_3Few(t *testing.T) {
	whole := meantBytes(busy())
	for n := range 12 {
		want := api.Errno(160)
		if n >= 8 {
			want = 161
		}
		wantNoDecode(t, fmt.Sprintf("%d noughts", n), make([]byte, n), want)
		wantNoDecode(t, fmt.Sprintf("the first %d", n), whole[:n], want)
		wantNoDecode(t, fmt.Sprintf("%d times 65", n), bytes.Repeat([]byte{0x65}, n), want)
	}
	wantRefused(t, "the sum of nothing", nil, 160)
	for first := range 256 {
		wantRefused(t, "the sum of a byte", []byte{byte(first)}, 160)
	}
}

// TestP16_3Many: more than MaxDatagram bytes are refused whatever they are; just so many have a sum.
func TestP16_3Many(t *testing.T) {
	body := meantBody(busy())
	for _, n := range []int{mostBytes - 1, mostBytes, mostBytes + 1, mostBytes + 2, 2 * mostBytes, 1 << 20} {
		want := api.Errno(161)
		if n > mostBytes {
			want = 160
		}
		name := fmt.Sprintf("%d bytes", n)
		wantNoDecode(t, name, make([]byte, n), want)
		long := append(slices.Clone(body), make([]byte, n-8-len(body))...)
		wantNoDecode(t, name+", the right sum", sealed(long), 160)
		other := sealed(long)
		other[n-1]++
		wantNoDecode(t, name+", another sum", other, want)
	}
}

// TestP16_3Sum: a sum that is wrong anywhere, or written otherwise; of bytes that are no datagram's too.
func TestP16_3Sum(t *testing.T) {
	odd := busy()
	odd.To = 5
	for _, body := range [][]byte{meantBody(ack()), meantBody(busy()), meantBody(odd), {}, {1, 2, 3}} {
		b := sealed(body)
		n := len(b)
		for bit := range 64 {
			other := slices.Clone(b)
			other[n-8+bit/8] ^= 1 << (bit % 8)
			wantNoDecode(t, fmt.Sprintf("bit %d", bit), other, 161)
		}
		back := slices.Clone(b)
		slices.Reverse(back[n-8:])
		wantNoDecode(t, "the highest first", back, 161)
		wantNoDecode(t, "noughts", append(slices.Clone(body), make([]byte, 8)...), 161)
		wantNoDecode(t, "a byte behind the sum", append(slices.Clone(b), 0), 161)
		wantNoDecode(t, "a byte ahead", append([]byte{0}, b...), 161)
	}
}

// TestP16_3SumOfAll: each bit of each byte ahead of the sum is in it.
func TestP16_3SumOfAll(t *testing.T) {
	for _, d := range []api.Datagram{ack(), busy()} {
		whole := meantBytes(d)
		for place := range meantBody(d) {
			for bit := range 8 {
				b := slices.Clone(whole)
				b[place] ^= 1 << bit
				wantNoDecode(t, fmt.Sprintf("bit %d of byte %d", bit, place), b, 161)
			}
		}
		for n := 8; n < len(whole); n++ {
			wantNoDecode(t, fmt.Sprintf("the first %d", n), whole[:n], 161)
			wantNoDecode(t, fmt.Sprintf("the last %d", n), whole[len(whole)-n:], 161)
		}
	}
}

func TestP16_3Sign(t *testing.T) {
	for _, d := range []api.Datagram{ack(), busy()} {
		body := meantBody(d)
		for first := range 256 {
			body[0] = byte(first)
			if first == 0x65 {
				wantDecode(t, "65", sealed(body), d)
			} else {
				wantRefused(t, fmt.Sprintf("first byte %d", first), body, 160)
			}
		}
	}
}

func TestP16_3Kind(t *testing.T) {
	for kind := range 256 {
		x := writtenAs(ack())
		x.kind = byte(kind)
		if kind == 1 || kind == 2 {
			continue
		}
		name := fmt.Sprintf("kind %d", kind)
		wantRefused(t, name, x.body(), 160)
		turned := meantBody(busy())
		turned[1] = byte(kind)
		wantRefused(t, name+" for a Turn", turned, 160)
		wantRefused(t, name+", nothing behind the seats", x.body()[:12], 160)
	}
	asTurn, asAck := meantBody(ack()), meantBody(turn())
	asTurn[1], asAck[1] = 1, 2
	wantRefused(t, "a Turn that ends as an Ack", asTurn, 160)
	wantRefused(t, "an Ack that goes on as a Turn", asAck, 160)
}

// TestP16_3Lack: wherever the bytes end too early, with the sum of those that are there.
func TestP16_3Lack(t *testing.T) {
	for _, d := range []api.Datagram{ack(), turn(), busy(), many(336, 1)} {
		body := meantBody(d)
		for n := range body {
			wantRefused(t, fmt.Sprintf("the first %d", n), body[:n], 160)
		}
	}
}

func TestP16_3Left(t *testing.T) {
	for _, d := range []api.Datagram{ack(), turn(), busy()} {
		body := meantBody(d)
		for more := range 256 {
			wantRefused(t, "a byte left", append(slices.Clone(body), byte(more)), 160)
			wantRefused(t, "a byte ahead", append([]byte{byte(more)}, body...), 160)
		}
		wantRefused(t, "twice", slices.Concat(body, body), 160)
		wantRefused(t, "a sum within", sealed(body), 160)
	}
}

// tenth are nine bytes that say that more follow, and some more.
func tenth(more ...byte) []byte { return append(bytes.Repeat([]byte{0xff}, 9), more...) }

// TestP16_3NotWrittenSo: each number, in more bytes than it needs, and one that no number is.
func TestP16_3NotWrittenSo(t *testing.T) {
	for _, d := range []api.Datagram{ack(), turn(), busy(), turnOf(0, 1)} {
		l, numbers := writtenAs(d).pieces()
		for _, place := range numbers {
			name := fmt.Sprintf("piece %d", place)
			wide := slices.Clone(l[place])
			wide[len(wide)-1] |= 0x80
			wantRefused(t, name+" with a nought", instead(l, place, append(slices.Clone(wide), 0)...), 160)
			wantRefused(t, name+" with two noughts", instead(l, place, append(slices.Clone(wide), 0x80, 0)...), 160)
			wantRefused(t, name+" with a tenth 2", instead(l, place, tenth(2)...), 160)
			wantRefused(t, name+" in eleven bytes", instead(l, place, tenth(0x81, 0)...), 160)
			wantRefused(t, name+" with a tenth nought", instead(l, place, tenth(0)...), 160)
			wantMeant(t, name+" without a last byte", instead(l, place, wide...))
			if e := wantMeant(t, name+" with a tenth 1", instead(l, place, tenth(1)...)); e == 0 {
				t.Errorf("%s: a number of 64 bits may not be anywhere", name)
			}
		}
	}
}

// TestP16_3Bounds: Mark, First, Ack and the count at what they may be, and beyond.
func TestP16_3Bounds(t *testing.T) {
	numbers := []uint64{0, 1, 127, 128, mostNo - 1, mostNo, mostNo + 1, 1 << 41, math.MaxInt64, 1 << 63, 1<<63 + 1, math.MaxUint64 - 1, math.MaxUint64}
	for _, d := range []api.Datagram{ack(), turnOf(0, 1), turn()} {
		for _, n := range numbers {
			for name, set := range map[string]func(x *written){
				"Mark":  func(x *written) { x.mark = n },
				"First": func(x *written) { x.first = n },
				"Ack":   func(x *written) { x.acked = n },
			} {
				if d.Kind == 2 && name != "Ack" {
					continue
				}
				x := writtenAs(d)
				set(&x)
				e := wantMeant(t, fmt.Sprintf("%s %d", name, n), x.body())
				if want := boundErrno(name, n, len(d.Commands)); e != want {
					t.Errorf("%s %d: the test itself has %d, not %d", name, n, e, want)
				}
			}
		}
	}
}

// boundErrno is what comes of such a number where everything else is right: a First of 0 is well written, and a Turn with it may not be; nor may a command that is too far.
func boundErrno(name string, n uint64, commands int) api.Errno {
	switch {
	case n > mostNo:
		return 160
	case name == "First" && n == 0:
		return 162
	case name == "Mark" && n+2 > mostNo && commands > 0: // its command is two frames behind the mark
		return 162
	}
	return 0
}

// TestP16_3Counts: counts for which there are too few commands, or too many, up to the greatest number.
func TestP16_3Counts(t *testing.T) {
	for _, have := range []int{0, 1, 2, 335, 336, 337, 338} {
		for _, n := range []uint64{0, 1, 2, 3, 334, 335, 336, 337, 338, 1000, 1 << 32, 1<<32 + 1, 1 << 62, 1 << 63, 1<<63 + 1, math.MaxUint64} {
			x := writtenAs(many(have, 1))
			x.count = n
			name := fmt.Sprintf("%d commands, and %d said", have, n)
			e := wantMeant(t, name, x.body())
			if right := n == uint64(have) && have <= 336; right != (e == 0) {
				t.Errorf("%s: the test itself has %d", name, e)
			}
		}
	}
	for _, n := range []uint64{1, 337, 1 << 40, 1 << 63, math.MaxUint64} {
		x := writtenAs(turnOf(0, 1))
		x.count = n
		wantRefused(t, "much behind", append(x.body(), make([]byte, 10000)...), 160)
	}
}

// TestP16_3Frames: how far a frame is from the mark, at what it may be, and beyond; the frame that comes of it, too.
func TestP16_3Frames(t *testing.T) {
	told := map[api.Errno]int{}
	for _, mark := range []uint64{0, 1, 2, 100, mostNo - 1, mostNo} {
		for _, far := range []int64{math.MinInt64, math.MinInt64 + 1, -mostNo - 2, -mostNo - 1, -mostNo, -mostNo + 1, -100, -99, -2, -1, 0, 1, 2, mostNo - 100, mostNo - 1, mostNo, mostNo + 1, math.MaxInt64 - 1, math.MaxInt64} {
			x := writtenAs(turn())
			x.mark, x.commands[0].behind = mark, far
			e := wantMeant(t, fmt.Sprintf("mark %d, the frame less it %d", mark, far), x.body())
			told[e]++
			beyond := far > mostNo || far < -mostNo
			if frame := int64(mark) + far; beyond != (e == 160) || !beyond && (frame < 1 || frame > mostNo) != (e == 162) {
				t.Errorf("mark %d, the frame less it %d: the test itself has %d", mark, far, e)
			}
		}
	}
	if told[0] < 10 || told[160] < 10 || told[162] < 10 {
		t.Errorf("%v", told)
	}
}

// TestP16_3Verbs: a verb that there is not is no form, whatever follows; an operand beyond its range is one, of what may not be.
func TestP16_3Verbs(t *testing.T) {
	for verb := range 256 {
		for takes := range 4 {
			for _, n := range []int64{0, 1, 2, 8, 9, -1, -8, -9, 15, 16, 255, 256, math.MaxInt64, math.MinInt64, 1 << 32, 1<<32 + 1} {
				x := writtenAs(turn())
				x.commands[0].verb = byte(verb)
				x.commands[0].operands = []int64{n, n, n}[:takes]
				e := wantMeant(t, fmt.Sprintf("verb %d with %d of %d", verb, takes, n), x.body())
				if verb < 1 || verb > 7 {
					if e != 160 {
						t.Errorf("verb %d: the test itself has %d", verb, e)
					}
				}
			}
		}
	}
}

// TestP16_3EachCommand: all commands are looked at, wherever they stand.
func TestP16_3EachCommand(t *testing.T) {
	for _, place := range []int{0, 1, 7, 49, 98, 99} {
		for _, c := range []struct {
			name string
			do   func(c *writtenCommand)
			want api.Errno
		}{
			{"no verb", func(c *writtenCommand) { c.verb, c.operands = 0, nil }, 160},
			{"verb 8", func(c *writtenCommand) { c.verb, c.operands = 8, nil }, 160},
			{"an operand", func(c *writtenCommand) { c.verb, c.operands = 4, []int64{4} }, 162},
			{"frame 0", func(c *writtenCommand) { c.behind = -100 }, 162},
			{"frame too far", func(c *writtenCommand) { c.behind = mostNo }, 162},
			{"beyond", func(c *writtenCommand) { c.behind = mostNo + 1 }, 160},
			{"beyond below", func(c *writtenCommand) { c.behind = -mostNo - 1 }, 160},
		} {
			x := writtenAs(many(100, 1))
			c.do(&x.commands[place])
			wantRefused(t, fmt.Sprintf("%s at %d", c.name, place), x.body(), c.want)
		}
	}
}

// TestP16_3Seats: a seat is any byte in the form; which may be is asked behind it.
func TestP16_3Seats(t *testing.T) {
	for from := range 256 {
		for _, to := range []int{0, 1, 2, 3, 4, 5, 6, 7, 127, 128, 254, 255, from} {
			for _, d := range []api.Datagram{ack(), turnOf(0, 1), turn()} {
				x := writtenAs(d)
				x.from, x.to = byte(from), byte(to)
				e := wantMeant(t, fmt.Sprintf("from %d to %d", from, to), x.body())
				if may := from < 6 && to < 6 && from != to; may != (e == 0) || !may && e != 162 {
					t.Errorf("from %d to %d: the test itself has %d", from, to, e)
				}
			}
		}
	}
}

// TestP16_3Numbers: the numbers of commands go from the first one on, and none is above the greatest.
func TestP16_3Numbers(t *testing.T) {
	for _, n := range []int{0, 1, 2, 335, 336} {
		for _, first := range []int{1, 2, mostNo - 336, mostNo - 335, mostNo - 334, mostNo - 1, mostNo} {
			d := many(n, first)
			name := fmt.Sprintf("%d from %d on", n, first)
			if n == 0 || first+n-1 <= mostNo {
				wantDecode(t, name, meantBytes(d), d)
			} else {
				wantRefused(t, name, meantBody(d), 162)
			}
		}
	}
}

// TestP16_3Order: of several faults the answer is the first one's: how many bytes, the sum, the form, the datagram.
func TestP16_3Order(t *testing.T) {
	odd := writtenAs(turn())
	odd.from, odd.first, odd.commands[0].operands[0] = 9, 0, 99
	wantRefused(t, "may not be", odd.body(), 162)
	wantRefused(t, "may not be, a byte less", odd.body()[:len(odd.body())-1], 160)
	wantRefused(t, "may not be, a byte more", append(odd.body(), 0), 160)
	for name, spoil := range map[string]func(x *written){
		"sign":  func(x *written) { x.sign = 0 },
		"kind":  func(x *written) { x.kind = 3 },
		"Mark":  func(x *written) { x.mark = mostNo + 1 },
		"First": func(x *written) { x.first = mostNo + 1 },
		"count": func(x *written) { x.count = 337 },
		"frame": func(x *written) { x.commands[0].behind = mostNo + 1 },
		"verb":  func(x *written) { x.commands[0].verb = 0 },
		"Ack":   func(x *written) { x.acked = mostNo + 1 },
	} {
		x := writtenAs(turn())
		x.to = 200
		spoil(&x)
		wantRefused(t, "may not be, another "+name, x.body(), 160)
		wantNoDecode(t, "too long, another "+name, sealed(append(x.body(), make([]byte, mostBytes)...)), 160)
	}
}

// someSpoilt are bytes that come of others by one or two small changes, with the right sum or without.
func someSpoilt(r *rand.Rand, b []byte) []byte {
	body := slices.Clone(b[:len(b)-8])
	for range 1 + r.Intn(2) {
		if len(body) == 0 {
			break
		}
		place := r.Intn(len(body))
		switch r.Intn(6) {
		case 0:
			body[place] ^= 1 << r.Intn(8)
		case 1:
			body[place] = byte(r.Intn(256))
		case 2:
			body = slices.Insert(body, place, byte(r.Intn(256)))
		case 3:
			body = slices.Delete(body, place, place+1)
		case 4:
			body = append(body[:place], body[min(place+r.Intn(4), len(body)):]...)
		case 5:
			body[place] = byte(r.Intn(9))
		}
	}
	out := sealed(body)
	if r.Intn(10) == 0 {
		out[len(out)-1-r.Intn(8)] ^= 1 << r.Intn(8)
	}
	return out
}

// TestP16_3Some: bytes that have been spoilt a little, against the chapter's words.
func TestP16_3Some(t *testing.T) {
	r := rand.New(rand.NewSource(166))
	told := map[api.Errno]int{}
	for range 15000 {
		b := someSpoilt(r, meantBytes(someDatagram(r)))
		want, wantErrno := meantDecode(b)
		got, e := wire.Decode(b)
		if e != wantErrno || !same(got, want) {
			t.Fatalf("Decode(% x): %+v %d, not %+v %d", b, got, e, want, wantErrno)
		}
		told[e]++
	}
	for _, e := range []api.Errno{0, 160, 161, 162} {
		if told[e] < 500 {
			t.Errorf("only %d answers of error %d", told[e], e)
		}
	}
}

// TestP16_3AnyBytes: bytes without any sense.
func TestP16_3AnyBytes(t *testing.T) {
	r := rand.New(rand.NewSource(167))
	for range 20000 {
		body := make([]byte, r.Intn(80))
		for i := range body {
			body[i] = byte(r.Intn(256) >> r.Intn(8))
		}
		if len(body) > 12 {
			body[0], body[1], body[10], body[11] = 0x65, byte(1+r.Intn(2)), byte(r.Intn(7)), byte(r.Intn(7))
		}
		b := sealed(body)
		want, wantErrno := meantDecode(b)
		if got, e := wire.Decode(b); e != wantErrno || !same(got, want) {
			t.Fatalf("Decode(% x): %+v %d, not %+v %d", b, got, e, want, wantErrno)
		}
	}
}

// TestP16_3StayAsTheyWere: what is handed in is neither changed nor kept, the room behind its end neither; an answer is new memory.
func TestP16_3StayAsTheyWere(t *testing.T) {
	r := rand.New(rand.NewSource(168))
	for range 500 {
		want := someDatagram(r)
		whole := roomy(meantBytes(want), 0xaa)
		for _, b := range [][]byte{whole, whole[:len(whole)-1], whole[:3], roomy(sealed(whole), 0xaa), roomy(someSpoilt(r, whole), 0xaa)} {
			before := spare(b)
			if wire.Decode(b); !bytes.Equal(spare(b), before) {
				t.Fatalf("% x has become % x", before, spare(b))
			}
		}
		got, _ := wire.Decode(whole)
		other, _ := wire.Decode(whole)
		wipe(whole)
		wipe(other.Commands)
		if !same(got, want) {
			t.Fatalf("%+v has become %+v", want, got)
		}
	}
}
