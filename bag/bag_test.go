package bag_test

import (
	"bytes"
	"math"
	"runtime"
	"slices"
	"testing"

	"echelon/api"
	"echelon/bag"
)

// edges are numbers at which a reading may go wrong: about 0, at half a word, at the bounds of their type.
var edges = []int{math.MinInt, math.MinInt + 1, -1 << 32, -1<<32 - 1, -2, -1, 0, 1, 2, 1<<31 - 1, 1 << 31, 1 << 32, 1<<32 + 1, math.MaxInt - 1, math.MaxInt}

// parcel is one with these parts.
func parcel(no, from, to int, text string) api.Parcel {
	return api.Parcel{No: no, From: from, To: to, Bytes: []byte(text)}
}

// same holds two parcels against each other; no bytes and nil are the same.
func same(p, q api.Parcel) bool {
	return p.No == q.No && p.From == q.From && p.To == q.To && bytes.Equal(p.Bytes, q.Bytes)
}

// has holds a bag to have just these on their way, in this order.
func has(t *testing.T, b *bag.Bag, l ...api.Parcel) {
	t.Helper()
	if got := b.Flight(); !slices.EqualFunc(got, l, same) {
		t.Errorf("Flight: %v, meant %v", got, l)
	}
	if n := b.Len(); n != len(l) {
		t.Errorf("Len: %d, meant %d", n, len(l))
	}
}

// sends puts one in, and holds its number to be no.
func sends(t *testing.T, b *bag.Bag, from, to int, text string, no int) {
	t.Helper()
	if n := b.Send(from, to, []byte(text)); n != no {
		t.Errorf("Send(%d, %d, %q): %d, meant %d", from, to, text, n, no)
	}
}

// delivers takes one out, and holds it to be this one.
func delivers(t *testing.T, b *bag.Bag, p api.Parcel) {
	t.Helper()
	if got, e := b.Deliver(p.No); !same(got, p) || e != api.OK {
		t.Errorf("Deliver(%d): %v %d, meant %v", p.No, got, e, p)
	}
}

// doubles doubles one, and holds the new number to be again.
func doubles(t *testing.T, b *bag.Bag, no, again int) {
	t.Helper()
	if n, e := b.Double(no); n != again || e != api.OK {
		t.Errorf("Double(%d): %d %d, meant %d", no, n, e, again)
	}
}

// drops loses one.
func drops(t *testing.T, b *bag.Bag, no int) {
	t.Helper()
	if e := b.Drop(no); e != api.OK {
		t.Errorf("Drop(%d): %d", no, e)
	}
}

// refuses holds a bag to have none with these numbers, and to be unchanged when it has said so.
func refuses(t *testing.T, b *bag.Bag, nos ...int) {
	t.Helper()
	ahead := b.Flight()
	for _, no := range nos {
		if p, e := b.Deliver(no); !same(p, api.Parcel{}) || e != api.ErrBagNone {
			t.Errorf("Deliver(%d): %v %d", no, p, e)
		}
		if e := b.Drop(no); e != api.ErrBagNone {
			t.Errorf("Drop(%d): %d", no, e)
		}
		if n, e := b.Double(no); n != 0 || e != api.ErrBagNone {
			t.Errorf("Double(%d): %d %d", no, n, e)
		}
	}
	has(t, b, ahead...)
}

// with is a bag with n parcels, of which number i is from i to -i and has its number's bytes.
func with(t *testing.T, n int) (*bag.Bag, []api.Parcel) {
	t.Helper()
	b := bag.New()
	var l []api.Parcel
	for i := 1; i <= n; i++ {
		l = append(l, parcel(i, i, -i, string(textOf(i))))
		sends(t, b, i, -i, string(textOf(i)), i)
	}
	return b, l
}

// textOf are bytes that hang on n, from none to six.
func textOf(n int) []byte { return bytes.Repeat([]byte{byte(n), byte(n >> 8), byte(n + 7)}, n%3) }

func TestP17_1Examples(t *testing.T) {
	b := bag.New()
	sends(t, b, 0, 1, "a", 1)
	sends(t, b, 1, 0, "b", 2)
	doubles(t, b, 1, 3)
	delivers(t, b, parcel(3, 0, 1, "a"))
	drops(t, b, 1)
	refuses(t, b, 1, 9)
	has(t, b, parcel(2, 1, 0, "b"))
	sends(t, b, 5, 6, "", 4)
	has(t, b, parcel(2, 1, 0, "b"), parcel(4, 5, 6, ""))
}

func TestP17_1New(t *testing.T) {
	b := bag.New()
	has(t, b)
	refuses(t, b, edges...)
	has(t, b)
	sends(t, b, 0, 0, "", 1)
	has(t, b, parcel(1, 0, 0, ""))
	has(t, bag.New())
}

func TestP17_1SendAnyNumbers(t *testing.T) {
	b := bag.New()
	var l []api.Parcel
	for _, from := range edges {
		for _, to := range edges {
			l = append(l, parcel(len(l)+1, from, to, "x"))
			sends(t, b, from, to, "x", len(l))
		}
	}
	has(t, b, l...)
	for _, p := range l {
		doubles(t, b, p.No, len(l)+p.No)
		delivers(t, b, p)
	}
	for _, p := range l {
		p.No += len(l)
		delivers(t, b, p)
	}
	has(t, b)
}

func TestP17_1SendAnyBytes(t *testing.T) {
	every := make([]byte, 256)
	for i := range every {
		every[i] = byte(i)
	}
	long := bytes.Repeat(every, 1<<12)
	lists := [][]byte{nil, {}, {0}, {255}, {0, 0}, every, every[5:9], every[256:], every[7:7], long, []byte("\xff\xfe no text \x00")}
	b := bag.New()
	for i, l := range lists {
		if n := b.Send(2, 3, l); n != i+1 {
			t.Errorf("Send of %d bytes: %d", len(l), n)
		}
	}
	for i, p := range b.Flight() {
		if p.No != i+1 || p.From != 2 || p.To != 3 || !bytes.Equal(p.Bytes, lists[i]) {
			t.Errorf("at place %d: %d bytes, from %d to %d, number %d", i, len(p.Bytes), p.From, p.To, p.No)
		}
	}
	for i, l := range lists {
		doubles(t, b, i+1, len(lists)+i+1)
		for _, no := range []int{i + 1, len(lists) + i + 1} {
			if p, e := b.Deliver(no); e != api.OK || !same(p, api.Parcel{No: no, From: 2, To: 3, Bytes: l}) {
				t.Errorf("Deliver(%d): %d bytes, from %d to %d, number %d: %d", no, len(p.Bytes), p.From, p.To, p.No, e)
			}
		}
	}
}

// TestP17_1AlikeOnesAreMany: what is sent twice is two parcels.
func TestP17_1AlikeOnesAreMany(t *testing.T) {
	b := bag.New()
	data := []byte("same")
	for i := range 3 {
		if n := b.Send(1, 1, data); n != i+1 {
			t.Errorf("Send: %d", n)
		}
	}
	drops(t, b, 2)
	has(t, b, parcel(1, 1, 1, "same"), parcel(3, 1, 1, "same"))
}

func TestP17_1NumbersAreGivenOnce(t *testing.T) {
	b := bag.New()
	sends(t, b, 0, 1, "a", 1)
	delivers(t, b, parcel(1, 0, 1, "a"))
	sends(t, b, 0, 1, "b", 2)
	drops(t, b, 2)
	sends(t, b, 0, 1, "c", 3)
	doubles(t, b, 3, 4)
	drops(t, b, 4)
	refuses(t, b, 1, 2, 4)
	doubles(t, b, 3, 5)
	drops(t, b, 3)
	delivers(t, b, parcel(5, 0, 1, "c"))
	has(t, b)
	refuses(t, b, 0, 1, 2, 3, 4, 5, 6)
	sends(t, b, 0, 1, "d", 6)
	has(t, b, parcel(6, 0, 1, "d"))
}

func TestP17_2None(t *testing.T) {
	for n := range 5 {
		b, l := with(t, n)
		for _, no := range append([]int{n + 1, n + 2, 1000, -n}, edges...) {
			if no < 1 || no > n {
				refuses(t, b, no)
			}
		}
		has(t, b, l...)
		sends(t, b, 9, 9, "next", n+1)
	}
}

func TestP17_2OnItsWayNoMore(t *testing.T) {
	for n := 1; n <= 5; n++ {
		for no := 1; no <= n; no++ {
			b, l := with(t, n)
			delivers(t, b, l[no-1])
			rest := slices.Delete(slices.Clone(l), no-1, no)
			has(t, b, rest...)
			refuses(t, b, no)
			has(t, b, rest...)

			b, _ = with(t, n)
			drops(t, b, no)
			has(t, b, rest...)
			refuses(t, b, no)
			has(t, b, rest...)
		}
	}
}

// TestP17_2GoneOfDoubled: a parcel that was doubled goes alone, and so does its double.
func TestP17_2GoneOfDoubled(t *testing.T) {
	first, second := parcel(1, 3, 4, "ab"), parcel(2, 3, 4, "ab")
	twice := func() *bag.Bag {
		b := bag.New()
		sends(t, b, 3, 4, "ab", 1)
		doubles(t, b, 1, 2)
		return b
	}
	for _, p := range []struct{ out, stays api.Parcel }{{first, second}, {second, first}} {
		b := twice()
		delivers(t, b, p.out)
		has(t, b, p.stays)
		refuses(t, b, p.out.No)
		delivers(t, b, p.stays)
		refuses(t, b, 1, 2)

		b = twice()
		drops(t, b, p.out.No)
		has(t, b, p.stays)
		refuses(t, b, p.out.No)
		doubles(t, b, p.stays.No, 3)
		has(t, b, p.stays, parcel(3, 3, 4, "ab"))
	}
}

func TestP17_3DoubleLeavesTheFirst(t *testing.T) {
	b, l := with(t, 3)
	doubles(t, b, 2, 4)
	l = append(l, parcel(4, 2, -2, string(textOf(2))))
	has(t, b, l...)
	delivers(t, b, l[1])
	has(t, b, l[0], l[2], l[3])
	refuses(t, b, 2)
	delivers(t, b, l[3])
	has(t, b, l[0], l[2])
}

func TestP17_3DoubleOfOneAgainAndOfADouble(t *testing.T) {
	b := bag.New()
	sends(t, b, -1, math.MaxInt, "data", 1)
	doubles(t, b, 1, 2)
	doubles(t, b, 1, 3)
	doubles(t, b, 2, 4)
	doubles(t, b, 4, 5)
	drops(t, b, 4)
	doubles(t, b, 5, 6)
	drops(t, b, 1)
	refuses(t, b, 1, 4, 7)
	doubles(t, b, 3, 7)
	var l []api.Parcel
	for _, no := range []int{2, 3, 5, 6, 7} {
		l = append(l, parcel(no, -1, math.MaxInt, "data"))
	}
	has(t, b, l...)
	for _, p := range l {
		delivers(t, b, p)
	}
	has(t, b)
}

// TestP17_3RefusalsGiveNoNumber: numbers are given with the calls that answer one.
func TestP17_3RefusalsGiveNoNumber(t *testing.T) {
	b := bag.New()
	for i := range 20 {
		refuses(t, b, 0, -1, 2*i+1, 2*i+2, math.MinInt, math.MaxInt)
		sends(t, b, 0, 1, "p", 2*i+1)
		refuses(t, b, 0, -1, 2*i+2, math.MinInt, math.MaxInt)
		doubles(t, b, 2*i+1, 2*i+2)
		delivers(t, b, parcel(2*i+1, 0, 1, "p"))
	}
}

// TestP17_3ManyDoublesOfALongOne: the program was given one long list alone, so its doubles may not ask for that room again and again.
func TestP17_3ManyDoublesOfALongOne(t *testing.T) {
	b := bag.New()
	long := bytes.Repeat([]byte{1, 2, 3, 4}, 1<<20)
	b.Send(0, 1, long)
	var ahead, behind runtime.MemStats
	runtime.ReadMemStats(&ahead)
	for i := range 200 {
		doubles(t, b, 1+i/2, i+2)
	}
	runtime.ReadMemStats(&behind)
	if n := behind.TotalAlloc - ahead.TotalAlloc; n > 1<<24 {
		t.Errorf("200 doubles asked for %d bytes", n)
	}
	for _, no := range []int{1, 201, 77} {
		if p, e := b.Deliver(no); e != api.OK || p.No != no || p.To != 1 || !bytes.Equal(p.Bytes, long) {
			t.Errorf("Deliver(%d): %d bytes, number %d: %d", no, len(p.Bytes), p.No, e)
		}
	}
}

func TestP17_4FlightOfNoneOneAndMany(t *testing.T) {
	for _, n := range []int{0, 1, 2, 3, 8, 9, 64, 1000} {
		b, l := with(t, n)
		for range 3 {
			has(t, b, l...)
		}
		for no := 1; no <= n; no += 2 {
			drops(t, b, no)
		}
		var even []api.Parcel
		for i := 1; i < n; i += 2 {
			even = append(even, l[i])
		}
		has(t, b, even...)
		for i, p := range even {
			doubles(t, b, p.No, n+i+1)
		}
		for i, p := range slices.Clone(even) {
			p.No = n + i + 1
			even = append(even, p)
		}
		has(t, b, even...)
		for _, p := range even {
			delivers(t, b, p)
		}
		has(t, b)
		sends(t, b, 1, 2, "then", n+len(even)/2+1)
		has(t, b, parcel(n+len(even)/2+1, 1, 2, "then"))
	}
}

// TestP17_4GoneFromBetween: whichever of six are gone, the others are told by rising numbers.
func TestP17_4GoneFromBetween(t *testing.T) {
	for set := range 1 << 6 {
		b, l := with(t, 6)
		var rest []api.Parcel
		for i := 5; i >= 0; i-- {
			switch {
			case set>>i&1 == 0:
				rest = append([]api.Parcel{l[i]}, rest...)
			case i%2 == 0:
				delivers(t, b, l[i])
			default:
				drops(t, b, i+1)
			}
		}
		has(t, b, rest...)
	}
}
