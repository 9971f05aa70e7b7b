package wire_test

import (
	"bytes"
	"encoding/hex"
	"fmt"
	"math"
	"math/rand"
	"slices"
	"strings"
	"testing"

	"echelon/api"
	"echelon/digest"
	"echelon/wire"
)

func wantEncode(t *testing.T, name string, d api.Datagram, want []byte) {
	t.Helper()
	if b, e := wire.Encode(d); e != 0 || !bytes.Equal(b, want) {
		t.Errorf("%s: Encode(%+v): % x %d, not % x", name, d, b, e, want)
	}
}

func wantNoEncode(t *testing.T, name string, d api.Datagram) {
	t.Helper()
	if b, e := wire.Encode(d); e != 162 || len(b) != 0 {
		t.Errorf("%s: Encode(%+v): % x %d, not 162", name, d, b, e)
	}
}

// ahead are bytes as the chapter tells them.
func ahead(t *testing.T, text string) []byte {
	t.Helper()
	b, err := hex.DecodeString(strings.ReplaceAll(text, " ", ""))
	if err != nil {
		t.Fatal(err)
	}
	return b
}

func TestP16_2Examples(t *testing.T) {
	wantEncode(t, "an Ack", ack(), sealed(ahead(t, "65 02 02 01 00 00 00 00 00 00 01 00 05")))
	wantEncode(t, "a Turn", turn(), sealed(ahead(t, "65 01 00 00 00 00 00 00 00 00 00 01 03 01 01 04 01 0f 02 00")))
	d := turn()
	d.Commands[0].Seq = 2
	wantNoEncode(t, "Seq 2", d)
}

// TestP16_2Sum: the last eight bytes are the sum of all ahead, the lowest first.
func TestP16_2Sum(t *testing.T) {
	for _, d := range []api.Datagram{ack(), turn(), busy(), greatest()} {
		b, _ := wire.Encode(d)
		n := len(b) - 8
		sum := digest.Of(b[:n])
		for place, got := range b[n:] {
			if want := byte(sum >> (8 * place)); got != want {
				t.Errorf("byte %d of the sum %x: %x, not %x", place, sum, got, want)
			}
		}
	}
}

// TestP16_2Verbs: a command's bytes by its verb: those that take no operand, one and two.
func TestP16_2Verbs(t *testing.T) {
	for text, o := range map[string]api.Order{
		"01 00 00": order(1, 0, 0),
		"01 0f 10": order(1, -8, 8),
		"01 02 01": order(1, 1, -1),
		"02":       order(2),
		"03 1e":    order(3, 15),
		"04 06":    order(4, 3),
		"05 02":    order(5, 1),
		"05 00":    order(5, 0),
		"06 00":    order(6, 0),
		"07 7e":    order(7, 63),
		"07 80 01": order(7, 64),
		"07 fe 03": order(7, 255),
		"07 00":    order(7, 0),
		"03 02":    order(3, 1),
		"01 10 0f": order(1, 8, -8),
		"06 1e":    order(6, 15),
		"04 02":    order(4, 1),
		"01 00 0d": order(1, 0, -7),
		"01 0d 00": order(1, -7, 0),
		"07 ac 02": order(7, 150),
		"03 00":    order(3, 0),
	} {
		d := turnOf(3, 1, api.Command{Frame: 4, Seq: 1, Order: o})
		want := sealed(ahead(t, "65 01 00 00 00 00 00 00 00 00 00 01 03 01 01 02"+text+"00"))
		wantEncode(t, text, d, want)
	}
}

// TestP16_2Frames: a command's frame is written as what it is from the mark on, above it, at it, below it and far below it.
func TestP16_2Frames(t *testing.T) {
	for _, x := range []struct {
		mark, frame int64
		text        string
	}{
		{3, 4, "03 01 01 02"},
		{3, 3, "03 01 01 00"},
		{3, 2, "03 01 01 01"},
		{3, 1, "03 01 01 03"},
		{0, 1, "00 01 01 02"},
		{128, 64, "80 01 01 01 7f"},
		{128, 63, "80 01 01 01 81 01"},
		{0, mostNo, "00 01 01 80 80 80 80 80 40"},
		{mostNo, mostNo, "80 80 80 80 80 20 01 01 00"},
		{mostNo, 1, "80 80 80 80 80 20 01 01 fd ff ff ff ff 3f"},
	} {
		d := turnOf(x.mark, 1, api.Command{Frame: x.frame, Seq: 1, Order: order(2)})
		want := sealed(ahead(t, "65 01 00 00 00 00 00 00 00 00 00 01"+x.text+"02 00"))
		wantEncode(t, fmt.Sprintf("mark %d, frame %d", x.mark, x.frame), d, want)
	}
}

func TestP16_2Edges(t *testing.T) {
	for _, x := range edges() {
		if x.may {
			wantEncode(t, x.name, x.d, meantBytes(x.d))
		} else {
			wantNoEncode(t, x.name, x.d)
		}
	}
}

func TestP16_2Sessions(t *testing.T) {
	for _, n := range []uint64{0, 1, 255, 256, 0x0102030405060708, 1 << 63, math.MaxUint64} {
		for _, d := range []api.Datagram{ack(), turn()} {
			d.Session = n
			b, _ := wire.Encode(d)
			for place := range 8 {
				if b[2+place] != byte(n>>(8*place)) {
					t.Errorf("session %x: % x", n, b)
				}
			}
		}
	}
}

// TestP16_2Greatest: no datagram has more bytes than this one, and these are not too many.
func TestP16_2Greatest(t *testing.T) {
	b, e := wire.Encode(greatest())
	if e != 0 || len(b) != 3064 || len(b) > api.MaxDatagram {
		t.Errorf("%d bytes: %d", len(b), e)
	}
	wantEncode(t, "the greatest", greatest(), meantBytes(greatest()))
	r := rand.New(rand.NewSource(163))
	for range 300 {
		d := greatest()
		for i := range d.Commands {
			d.Commands[i].Order = someOrder(r)
			d.Commands[i].Frame = int64(someIn(r, 1, mostNo))
		}
		if got, e := wire.Encode(d); e != 0 || len(got) > len(b) {
			t.Fatalf("%d bytes: %d", len(got), e)
		}
	}
}

// TestP16_2NotWritten: a command's number and seat are those that the datagram says; nothing of them is written.
func TestP16_2NotWritten(t *testing.T) {
	d, other := many(100, 1), many(100, 2)
	a, _ := wire.Encode(d)
	b, _ := wire.Encode(other)
	if len(a) != len(b) || a[13] != 1 || b[13] != 2 || !bytes.Equal(a[14:len(a)-8], b[14:len(b)-8]) {
		t.Errorf("% x and % x", a, b)
	}
}

// TestP16_2Some: drawn datagrams, with an odd thing or none, against the chapter's words.
func TestP16_2Some(t *testing.T) {
	r := rand.New(rand.NewSource(164))
	for range 10000 {
		d := someDatagram(r)
		wantEncode(t, "drawn", d, meantBytes(d))
		if d = someOdd(r, d); meantMay(d) {
			wantEncode(t, "odd", d, meantBytes(d))
		} else {
			wantNoEncode(t, "odd", d)
		}
		if t.Failed() {
			return
		}
	}
}

// TestP16_2StayAsTheyWere: what is handed in is neither changed nor kept, the room behind its end neither; an answer is new memory.
func TestP16_2StayAsTheyWere(t *testing.T) {
	r := rand.New(rand.NewSource(165))
	for range 500 {
		d := someDatagram(r)
		d.Commands = roomy(d.Commands, beside())
		before, want := spare(d.Commands), meantBytes(d)
		got, _ := wire.Encode(d)
		other, _ := wire.Encode(d)
		if !slices.Equal(spare(d.Commands), before) {
			t.Fatalf("%+v has become %+v", before, spare(d.Commands))
		}
		wipe(d.Commands)
		wipe(other)
		if !bytes.Equal(got, want) {
			t.Fatalf("% x has become % x", want, got)
		}
		wipe(got)
		odd := someOdd(r, someDatagram(r))
		odd.Commands = roomy(odd.Commands, beside())
		before = spare(odd.Commands)
		if wire.Encode(odd); !slices.Equal(spare(odd.Commands), before) {
			t.Fatalf("%+v has become %+v", before, spare(odd.Commands))
		}
	}
}
