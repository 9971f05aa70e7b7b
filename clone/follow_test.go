package clone_test

import (
	"bytes"
	"math/rand"
	"testing"

	"echelon/api"
	"echelon/clone"
	"echelon/world"
)

// TestP14_5ThereAndBack: Decode of Encode is the world.
func TestP14_5ThereAndBack(t *testing.T) {
	r := rand.New(rand.NewSource(150))
	for range 5000 {
		c := someSession(r)
		w := someWorld(r, c)
		b, e := clone.Encode(c, w)
		got, f := clone.Decode(c, b)
		if e != 0 || f != 0 || !clone.Same(got, w) || !same(got, w) {
			t.Fatalf("%+v became %+v: %d %d", w, got, e, f)
		}
	}
}

// TestP14_5Back: Encode of what Decode answers is the bytes, however these came to be.
func TestP14_5Back(t *testing.T) {
	r := rand.New(rand.NewSource(151))
	taken := 0
	for range 10000 {
		c := someSession(r)
		b := someSpoilt(r, meantBytes(someWorld(r, c)))
		w, e := clone.Decode(c, b)
		if e != 0 {
			continue
		}
		taken++
		if got, e := clone.Encode(c, w); e != 0 || !bytes.Equal(got, b) {
			t.Fatalf("% x became % x: %d", b, got, e)
		}
	}
	if taken < 500 {
		t.Errorf("only %d were taken", taken)
	}
}

// TestP14_5TheSame: worlds that are the same have the same bytes and sums, and others have others.
func TestP14_5TheSame(t *testing.T) {
	r := rand.New(rand.NewSource(152))
	for range 500 {
		c := someSession(r)
		w := someWorld(r, c)
		alike := roomyWorld(clone.Copy(w))
		other := someWorld(r, c)
		b, _ := clone.Encode(c, w)
		d, _ := clone.Digest(c, w)
		again, e := clone.Encode(c, alike)
		sum, f := clone.Digest(c, alike)
		if e != 0 || f != 0 || !bytes.Equal(again, b) || sum != d {
			t.Fatalf("%+v: % x %d, then % x %d: %d %d", w, b, d, again, sum, e, f)
		}
		otherBytes, _ := clone.Encode(c, other)
		otherSum, _ := clone.Digest(c, other)
		if is := clone.Same(w, other); bytes.Equal(b, otherBytes) != is || (d == otherSum) != is {
			t.Fatalf("%+v and %+v", w, other)
		}
	}
}

// TestP14_5NoneAndEmpty: nil and empty lists have the same bytes and sums.
func TestP14_5NoneAndEmpty(t *testing.T) {
	c := two()
	w := begun(t, c)
	empty := clone.Copy(w)
	empty.Shots, empty.Pickups = []api.Shot{}, []api.Pickup{}
	none := clone.Copy(w)
	none.Shots, none.Pickups = nil, nil
	a, e := clone.Encode(c, empty)
	b, f := clone.Encode(c, none)
	x, g := clone.Digest(c, empty)
	y, h := clone.Digest(c, none)
	if !bytes.Equal(a, b) || x != y || e != 0 || f != 0 || g != 0 || h != 0 {
		t.Errorf("% x %d, % x %d", a, x, b, y)
	}
}

// TestP14_5Play: a game goes on from a copy, and from bytes, as it does from the world; what the one does the others don't see.
func TestP14_5Play(t *testing.T) {
	c := six()
	w := begun(t, c)
	for f := int64(1); f <= 300; f++ {
		var commands []api.Command
		for seat := range c.Peers {
			commands = append(commands, api.Command{Frame: f, Peer: seat, Seq: int(f), Order: api.Order{Verb: api.Fire, A: 1 + int(f)%3}})
		}
		b, e := clone.Encode(c, w)
		before := clone.Copy(w)
		next, _, _ := world.Step(c, w, commands)
		read, errno := clone.Decode(c, b)
		if e != 0 || errno != 0 || !clone.Same(w, before) || clone.Same(w, next) {
			t.Fatalf("frame %d: %+v %d %d", f, read, e, errno)
		}
		for _, from := range []api.World{before, read} {
			got, _, e := world.Step(c, from, commands)
			if e != 0 || !clone.Same(got, next) {
				t.Fatalf("frame %d: %+v %d, not %+v", f, got, e, next)
			}
		}
		wipeWorld(w)
		if clone.Same(before, w) || !clone.Same(before, read) {
			t.Fatalf("frame %d: %+v, %+v", f, before, read)
		}
		w = next
	}
}
