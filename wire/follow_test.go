package wire_test

import (
	"bytes"
	"math/rand"
	"testing"

	"echelon/wire"
)

// TestP16_4ThereAndBack: Decode of Encode is the datagram.
func TestP16_4ThereAndBack(t *testing.T) {
	for _, x := range edges() {
		b, e := wire.Encode(x.d)
		if d, f := wire.Decode(b); x.may && (e != 0 || f != 0 || !same(d, x.d)) {
			t.Errorf("%s: %+v became %+v: %d %d", x.name, x.d, d, e, f)
		}
	}
	r := rand.New(rand.NewSource(169))
	for range 10000 {
		d := someDatagram(r)
		b, e := wire.Encode(d)
		if got, f := wire.Decode(b); e != 0 || f != 0 || !same(got, d) {
			t.Fatalf("%+v became %+v: %d %d", d, got, e, f)
		}
	}
}

// TestP16_4Back: what Decode takes, Encode writes as the same bytes, however these came to be.
func TestP16_4Back(t *testing.T) {
	r := rand.New(rand.NewSource(170))
	taken := 0
	for range 20000 {
		b := someSpoilt(r, meantBytes(someDatagram(r)))
		d, e := wire.Decode(b)
		if e != 0 {
			continue
		}
		taken++
		if e := wire.Check(d); e != 0 {
			t.Fatalf("% x became %+v, which may not be: %d", b, d, e)
		}
		if got, e := wire.Encode(d); e != 0 || !bytes.Equal(got, b) {
			t.Fatalf("% x became % x: %d", b, got, e)
		}
	}
	if taken < 2000 {
		t.Errorf("only %d were taken", taken)
	}
}

// TestP16_4Unlike: datagrams that are unlike have unlike bytes.
func TestP16_4Unlike(t *testing.T) {
	r := rand.New(rand.NewSource(171))
	for range 5000 {
		d := someDatagram(r)
		other := someOdd(r, d)
		b, _ := wire.Encode(d)
		got, e := wire.Encode(other)
		if e == 0 && bytes.Equal(b, got) != same(d, other) {
			t.Fatalf("%+v and %+v: % x and % x", d, other, b, got)
		}
	}
}
