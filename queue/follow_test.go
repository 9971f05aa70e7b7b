package queue_test

import (
	"math"
	"math/rand"
	"slices"
	"testing"

	"echelon/api"
	"echelon/queue"
)

// unlike are n entries of unlike keys, in no order.
func unlike(r *rand.Rand, n int) []api.Entry {
	seen := map[key]int{}
	var l []api.Entry
	for len(l) < n {
		e := drawn(r, 24)
		if seen[keyOf(e)]++; seen[keyOf(e)] == 1 {
			l = append(l, e)
		}
	}
	return l
}

// ordered is a list in order, by a sort that the program does not take.
func ordered(l []api.Entry) []api.Entry {
	l = slices.Clone(l)
	for i := range l {
		for j := i; j > 0 && ahead(l[j], l[j-1]); j-- {
			l[j], l[j-1] = l[j-1], l[j]
		}
	}
	return l
}

func TestP15_5PopTellsAllInOrder(t *testing.T) {
	r := rand.New(rand.NewSource(155))
	for range 200 {
		l := unlike(r, r.Intn(80))
		want := ordered(l)
		for range 4 {
			r.Shuffle(len(l), func(i, j int) { l[i], l[j] = l[j], l[i] })
			if got := pops(with(t, l...)); !slices.Equal(got, want) {
				t.Fatalf("Pop: %v, meant %v", got, want)
			}
		}
	}
}

func TestP15_5EveryOrderOfSix(t *testing.T) {
	want := []api.Entry{of(1, 0, 1, 1), of(1, 0, 2, 2), of(1, 1, 0, 3), of(2, 0, 0, 4), of(2, 0, 1, 5), of(3, 0, 0, 6)}
	var each func(l []api.Entry, i int)
	each = func(l []api.Entry, i int) {
		if i == len(l) {
			if got := pops(with(t, l...)); !slices.Equal(got, want) {
				t.Fatalf("pushed %v, popped %v", l, got)
			}
			return
		}
		for j := i; j < len(l); j++ {
			l[i], l[j] = l[j], l[i]
			each(l, i+1)
			l[i], l[j] = l[j], l[i]
		}
	}
	each(slices.Clone(want), 0)
}

func TestP15_5BelowAndThenPop(t *testing.T) {
	r := rand.New(rand.NewSource(1555))
	for range 100 {
		q := with(t, unlike(r, r.Intn(60))...)
		want := pops(q.Clone())
		frames := []int64{math.MinInt64, math.MaxInt64, -13, 0, 12, drawn(r, 24).Command.Frame}
		for _, f := range frames {
			c := q.Clone()
			low := c.Below(f)
			for _, e := range low {
				if e.Command.Frame > f {
					t.Fatalf("Below(%d) tells %v", f, e)
				}
			}
			if e, is := c.Peek(); is && e.Command.Frame <= f {
				t.Fatalf("Below(%d) leaves %v", f, e)
			}
			if got := slices.Concat(low, pops(c)); !slices.Equal(got, want) {
				t.Fatalf("Below(%d), and then Pop: %v, Pop: %v", f, got, want)
			}
		}
	}
}

func TestP15_5AFullOne(t *testing.T) {
	r := rand.New(rand.NewSource(15555))
	l := make([]api.Entry, 4096)
	for i, j := range r.Perm(len(l)) {
		l[j] = of(int64(i/256), i/16%16, i%16, i)
	}
	q := with(t, l...)
	if e := q.Push(at(99, 0, 0)); e != api.ErrQueueFull {
		t.Errorf("Push: %d", e)
	}
	c := q.Clone()
	all, low := q.All(), c.Below(7)
	if len(low) != 2048 || c.Len() != 2048 {
		t.Errorf("Below: %d entries, Len %d", len(low), c.Len())
	}
	for i, e := range all {
		if e != of(int64(i/256), i/16%16, i%16, i) {
			t.Fatalf("at place %d: %v", i, e)
		}
	}
	if got := slices.Concat(low, pops(c)); !slices.Equal(got, all) {
		t.Error("Below and then Pop is not All")
	}
	if got := pops(q); !slices.Equal(got, all) {
		t.Error("Pop is not All")
	}
}

// TestP15_5BetweenPushes: what is popped between pushes is the least of what is there.
func TestP15_5BetweenPushes(t *testing.T) {
	r := rand.New(rand.NewSource(51))
	for range 50 {
		q := queue.New()
		var pushed, popped []api.Entry
		for _, e := range unlike(r, 60) {
			q.Push(e)
			pushed = append(pushed, e)
			if r.Intn(3) == 0 {
				out, _ := q.Pop()
				popped = append(popped, out)
				if rest := q.All(); len(rest) > 0 && !ahead(out, rest[0]) {
					t.Fatalf("Pop: %v, but %v was there", out, rest[0])
				}
			}
		}
		popped = append(popped, pops(q)...)
		if !slices.Equal(ordered(popped), ordered(pushed)) {
			t.Fatal("what was popped is not what was pushed, each once")
		}
	}
}
