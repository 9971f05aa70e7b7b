package code_test

import (
	"bytes"
	"math"
	"math/rand"
	"testing"

	"echelon/api"
	"echelon/code"
)

// someThing lays something down, and answers what takes it up again and says whether it is the same.
func someThing(rnd *rand.Rand, w *code.Writer) func(r *code.Reader) bool {
	n := rnd.Uint64() >> rnd.Intn(64)
	switch rnd.Intn(4) {
	case 0:
		w.Uint(n)
		return func(r *code.Reader) bool { return r.Uint() == n }
	case 1:
		signed := int64(n) * int64(1-2*rnd.Intn(2))
		w.Int(signed)
		return func(r *code.Reader) bool { return r.Int() == signed }
	case 2:
		w.Byte(byte(n))
		return func(r *code.Reader) bool { return r.Byte() == byte(n) }
	default:
		b := make([]byte, rnd.Intn(200))
		rnd.Read(b)
		w.Bytes(b)
		most := len(b) + rnd.Intn(2)*rnd.Intn(1000)
		return func(r *code.Reader) bool { return bytes.Equal(r.Bytes(most), b) }
	}
}

func TestP2_6WhatWasLaidDownIsTakenUp(t *testing.T) {
	rnd := rand.New(rand.NewSource(26))
	for range 20000 {
		w := code.NewWriter(math.MaxInt)
		var takes []func(r *code.Reader) bool
		for range rnd.Intn(10) {
			takes = append(takes, someThing(rnd, w))
		}
		b, errno := w.Done()
		if errno != api.OK {
			t.Fatalf("laid down: %d", errno)
		}
		r := code.NewReader(b)
		for i, same := range takes {
			if !same(r) {
				t.Fatalf("%x: thing %d is another one", b, i)
			}
		}
		if r.Left() != 0 || r.Done() != api.OK {
			t.Fatalf("%x: Left %d, Done %d", b, r.Left(), r.Done())
		}
	}
}

func TestP2_6EdgesThereAndBack(t *testing.T) {
	for _, n := range edges() {
		w := code.NewWriter(30)
		w.Uint(n)
		w.Int(int64(n))
		w.Byte(byte(n))
		b, _ := w.Done()
		r := code.NewReader(b)
		if r.Uint() != n || r.Int() != int64(n) || r.Byte() != byte(n) || r.Done() != api.OK {
			t.Errorf("%d: %x, Done %d", n, b, r.Done())
		}
	}
	for _, size := range []int{0, 1, 127, 128, 16383, 16384, 100000} {
		w := code.NewWriter(size + 3)
		w.Bytes(someBytes(size))
		b, _ := w.Done()
		r := code.NewReader(b)
		if got := r.Bytes(size); !bytes.Equal(got, someBytes(size)) || r.Done() != api.OK {
			t.Errorf("%d bytes: Done %d", size, r.Done())
		}
	}
}

// again takes something up and lays it down; false, if there was nothing to take up.
func again(kind int, r *code.Reader, w *code.Writer) bool {
	switch kind {
	case 0:
		n := r.Uint()
		w.Uint(n)
	case 1:
		n := r.Int()
		w.Int(n)
	case 2:
		b := r.Byte()
		w.Byte(b)
	default:
		b := r.Bytes(50)
		w.Bytes(b)
	}
	errno := r.Done()
	return errno == api.OK || errno == api.ErrCodeMore
}

func TestP2_6WhatIsTakenUpHasOneForm(t *testing.T) {
	rnd := rand.New(rand.NewSource(27))
	taken := 0
	for range 100000 {
		b := unruly(rnd)
		r := code.NewReader(b)
		for r.Left() > 0 {
			begin := len(b) - r.Left()
			w := code.NewWriter(60)
			if !again(rnd.Intn(4), r, w) {
				break
			}
			taken++
			form := b[begin : len(b)-r.Left()]
			if got, errno := w.Done(); !bytes.Equal(got, form) || errno != api.OK {
				t.Fatalf("%x at %d: taken up %x, laid down %x %d", b, begin, form, got, errno)
			}
		}
	}
	if taken < 100000 {
		t.Errorf("only %d things were taken up", taken)
	}
}
