package bag_test

import (
	"bytes"
	"testing"

	"echelon/api"
	"echelon/bag"
)

// spoil writes over bytes and over the room behind their end.
func spoil(b []byte) {
	b = b[:cap(b)]
	for i := range b {
		b[i] = 0xee
	}
}

// spoilAll writes over parcels, their bytes, and the room behind all ends.
func spoilAll(l []api.Parcel) {
	l = l[:cap(l)]
	for i := range l {
		spoil(l[i].Bytes)
		l[i] = api.Parcel{No: -1, From: -2, To: -3, Bytes: []byte("spoilt")}
	}
}

func TestP17_1WhatWasHandedInMayChange(t *testing.T) {
	room := []byte("abcdefghij")
	for from := range len(room) {
		for to := from; to <= len(room); to++ {
			data := bytes.Clone(room)
			want := string(data[from:to])
			b := bag.New()
			b.Send(0, 1, data[from:to])
			if !bytes.Equal(data, room) {
				t.Fatalf("Send has changed what it was handed: %q", data)
			}
			spoil(data)
			doubles(t, b, 1, 2)
			has(t, b, parcel(1, 0, 1, want), parcel(2, 0, 1, want))
			delivers(t, b, parcel(1, 0, 1, want))
			delivers(t, b, parcel(2, 0, 1, want))
		}
	}
}

// TestP17_1OneListForMany: a sender that writes each datagram over the last one.
func TestP17_1OneListForMany(t *testing.T) {
	b := bag.New()
	data := make([]byte, 1, 64)
	var l []api.Parcel
	for i := range 40 {
		data = append(data[:i%5], byte(i), byte(i+1))
		l = append(l, parcel(i+1, 0, i, string(data)))
		b.Send(0, i, data)
		spoil(data)
	}
	has(t, b, l...)
}

func TestP17_2DeliverAnswersNewMemory(t *testing.T) {
	for n := range 40 {
		text := bytes.Repeat([]byte{'t'}, n)
		data := bytes.Clone(text)
		b := bag.New()
		b.Send(0, 1, data)
		doubles(t, b, 1, 2)
		doubles(t, b, 2, 3)
		seen := b.Flight()
		second, _ := b.Deliver(2)
		first, _ := b.Deliver(1)
		spoil(second.Bytes)
		if !bytes.Equal(data, text) || !bytes.Equal(first.Bytes, text) {
			t.Fatalf("%d bytes: what was handed in, or what another Deliver has answered, is another one", n)
		}
		for _, p := range seen {
			if !bytes.Equal(p.Bytes, text) {
				t.Fatalf("%d bytes: what Flight has answered is another one", n)
			}
		}
		spoil(first.Bytes)
		doubles(t, b, 3, 4)
		has(t, b, parcel(3, 0, 1, string(text)), parcel(4, 0, 1, string(text)))
		delivers(t, b, parcel(4, 0, 1, string(text)))
		delivers(t, b, parcel(3, 0, 1, string(text)))
	}
}

func TestP17_4FlightAnswersNewMemory(t *testing.T) {
	for n := range 20 {
		b, l := with(t, n)
		for i := range n {
			doubles(t, b, i+1, n+i+1)
			l = append(l, parcel(n+i+1, i+1, -i-1, string(textOf(i+1))))
		}
		first, second := b.Flight(), b.Flight()
		spoilAll(first)
		for i, p := range second {
			if !same(p, l[i]) {
				t.Fatalf("%d parcels: another answer has changed: %v", n, p)
			}
		}
		has(t, b, l...)
		for i := range second {
			spoil(second[i].Bytes)
			for j := range second {
				if j > i && !same(second[j], l[j]) {
					t.Fatalf("%d parcels: those at places %d and %d share their bytes", n, i, j)
				}
			}
		}
		has(t, b, l...)
		for _, p := range l {
			delivers(t, b, p)
		}
	}
}

// TestP17_4AnswersStay: what Flight has told stays so, whatever the bag does then.
func TestP17_4AnswersStay(t *testing.T) {
	b, l := with(t, 7)
	told := b.Flight()
	delivers(t, b, l[3])
	drops(t, b, 1)
	doubles(t, b, 5, 8)
	sends(t, b, 0, 0, "more", 9)
	spoilAll(b.Flight())
	for i, p := range told {
		if !same(p, l[i]) {
			t.Errorf("at place %d: %v, meant %v", i, p, l[i])
		}
	}
	if len(told) != 7 {
		t.Errorf("%d parcels", len(told))
	}
}

func TestP17_1TwoBags(t *testing.T) {
	a, b := bag.New(), bag.New()
	data := []byte("both")
	a.Send(0, 1, data)
	has(t, b)
	refuses(t, b, 1)
	if n := b.Send(2, 3, data); n != 1 {
		t.Errorf("Send to the second one: %d", n)
	}
	sends(t, a, 0, 1, "a", 2)
	doubles(t, a, 2, 3)
	has(t, b, parcel(1, 2, 3, "both"))
	p, _ := a.Deliver(1)
	spoil(p.Bytes)
	refuses(t, a, 1)
	has(t, b, parcel(1, 2, 3, "both"))
	doubles(t, b, 1, 2)
	drops(t, b, 1)
	has(t, a, parcel(2, 0, 1, "a"), parcel(3, 0, 1, "a"))
	has(t, b, parcel(2, 2, 3, "both"))
	sends(t, a, 9, 9, "", 4)
	sends(t, b, 8, 8, "", 3)
}
