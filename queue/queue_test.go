package queue_test

import (
	"math"
	"slices"
	"testing"

	"echelon/api"
	"echelon/queue"
)

// edges are numbers at which a reading may go wrong: about 0, at half a word, at the bounds of their types.
var edges = []int{math.MinInt, math.MinInt + 1, -1 << 32, -1<<32 - 1, -1, 0, 1, 1<<31 - 1, 1 << 31, 1 << 32, 1<<32 + 1, math.MaxInt - 1, math.MaxInt}

// at is an entry with this key, without an order.
func at(frame int64, seat, no int) api.Entry {
	return api.Entry{Command: api.Command{Frame: frame, Peer: seat, Seq: no}}
}

// of is an entry with this key, and with an order and a Missed that hang on n.
func of(frame int64, seat, no, n int) api.Entry {
	e := at(frame, seat, no)
	e.Command.Order, e.Missed = api.Order{Verb: n, A: n + 1, B: -n, C: 3 * n}, n+2
	return e
}

// with is a queue into which these were put, in this order.
func with(t *testing.T, l ...api.Entry) *queue.Queue {
	t.Helper()
	q := queue.New()
	for _, e := range l {
		if n := q.Push(e); n != api.OK {
			t.Fatalf("Push(%v): %d", e, n)
		}
	}
	return q
}

// full is one with n entries, whose numbers are 0 to n - 1, the greatest pushed first.
func full(t *testing.T, n int) *queue.Queue {
	t.Helper()
	q := queue.New()
	for i := n - 1; i >= 0; i-- {
		if e := q.Push(of(5, 1, i, i)); e != api.OK {
			t.Fatalf("Push of number %d: %d", i, e)
		}
	}
	return q
}

// has holds a queue to be just these entries, in this order.
func has(t *testing.T, q *queue.Queue, l ...api.Entry) {
	t.Helper()
	if got := q.All(); !slices.Equal(got, l) {
		t.Errorf("All: %v, meant %v", got, l)
	}
	if n := q.Len(); n != len(l) {
		t.Errorf("Len: %d, meant %d", n, len(l))
	}
	var first api.Entry
	if len(l) > 0 {
		first = l[0]
	}
	if e, is := q.Peek(); e != first || is != (len(l) > 0) {
		t.Errorf("Peek: %v %v, meant %v", e, is, first)
	}
}

// pops takes all out, one by one.
func pops(q *queue.Queue) []api.Entry {
	var l []api.Entry
	for e, is := q.Pop(); is; e, is = q.Pop() {
		l = append(l, e)
	}
	return l
}

func TestP15_1New(t *testing.T) {
	has(t, queue.New())
	q := with(t, at(1, 0, 1))
	has(t, queue.New())
	has(t, q, at(1, 0, 1))
}

func TestP15_1Examples(t *testing.T) {
	q := with(t, at(3, 0, 1), at(2, 1, 4), at(2, 0, 9), at(2, 1, 3))
	if e := q.Push(of(2, 0, 9, 2)); e != api.ErrQueueTwice {
		t.Errorf("Push of a key that is there: %d", e)
	}
	if e, is := q.Peek(); e != at(2, 0, 9) || !is {
		t.Errorf("Peek: %v %v", e, is)
	}
	if l := q.Below(2); !slices.Equal(l, []api.Entry{at(2, 0, 9), at(2, 1, 3), at(2, 1, 4)}) {
		t.Errorf("Below: %v", l)
	}
	if n := q.Len(); n != 1 {
		t.Errorf("Len: %d", n)
	}
	if e, is := q.Pop(); e != at(3, 0, 1) || !is {
		t.Errorf("Pop: %v %v", e, is)
	}
	if e, is := q.Pop(); e != (api.Entry{}) || is {
		t.Errorf("Pop of none: %v %v", e, is)
	}
	for _, f := range edges {
		if l := q.Below(int64(f)); len(l) != 0 {
			t.Errorf("Below(%d) of none: %v", f, l)
		}
	}
}

func TestP15_1PushTwice(t *testing.T) {
	l := []api.Entry{of(1, 0, 1, 1), of(1, 0, 2, 2), of(1, 1, 1, 3), of(4, 0, 3, 4)}
	q := with(t, l[3], l[1], l[0], l[2])
	for i, e := range l {
		order, missed := e, e
		order.Command.Order.C++
		missed.Missed++
		for _, again := range []api.Entry{e, order, missed, of(e.Command.Frame, e.Command.Peer, e.Command.Seq, 70+i)} {
			if n := q.Push(again); n != api.ErrQueueTwice {
				t.Errorf("Push(%v): %d", again, n)
			}
			has(t, q, l...)
		}
	}
}

func TestP15_1PushBehindPopAndBelow(t *testing.T) {
	q := with(t, of(2, 0, 1, 1), of(3, 0, 2, 2), of(4, 0, 3, 3))
	q.Pop()
	if e := q.Push(of(2, 0, 1, 9)); e != api.OK {
		t.Errorf("Push behind a Pop: %d", e)
	}
	has(t, q, of(2, 0, 1, 9), of(3, 0, 2, 2), of(4, 0, 3, 3))
	q.Below(3)
	for _, e := range []api.Entry{of(3, 0, 2, 8), of(2, 0, 1, 7)} {
		if n := q.Push(e); n != api.OK {
			t.Errorf("Push behind a Below: %d", n)
		}
		if n := q.Push(e); n != api.ErrQueueTwice {
			t.Errorf("Push once more: %d", n)
		}
	}
	has(t, q, of(2, 0, 1, 7), of(3, 0, 2, 8), of(4, 0, 3, 3))
}

func TestP15_1PushFull(t *testing.T) {
	q := full(t, 4095)
	if e := q.Push(of(5, 1, 17, 99)); e != api.ErrQueueTwice || q.Len() != 4095 {
		t.Errorf("Push of a key that is there, at 4095: %d, Len %d", e, q.Len())
	}
	if e := q.Push(of(5, 1, 4095, 4095)); e != api.OK || q.Len() != 4096 {
		t.Errorf("Push at 4095: %d, Len %d", e, q.Len())
	}
	all := q.All()
	for _, e := range []api.Entry{at(5, 1, -1), at(4, 1, 0), at(6, 1, 0), at(5, 0, 0), at(5, 2, 0), at(5, 1, 4096), of(9, 9, 9, 9)} {
		if n := q.Push(e); n != api.ErrQueueFull {
			t.Errorf("Push(%v) at 4096: %d", e, n)
		}
	}
	for _, i := range []int{0, 1, 17, 2048, 4094, 4095} {
		if n := q.Push(of(5, 1, i, 99)); n != api.ErrQueueTwice {
			t.Errorf("Push of number %d at 4096: %d", i, n)
		}
	}
	has(t, q, all...)
	for i, e := range all {
		if e != of(5, 1, i, i) {
			t.Fatalf("at place %d: %v", i, e)
		}
	}
}

func TestP15_1PushBehindFull(t *testing.T) {
	q := full(t, 4096)
	q.Pop()
	if e := q.Push(at(1, 0, 0)); e != api.OK {
		t.Errorf("Push behind a Pop: %d", e)
	}
	if e := q.Push(at(1, 0, 1)); e != api.ErrQueueFull {
		t.Errorf("Push at 4096: %d", e)
	}
	if l := q.Below(1); len(l) != 1 {
		t.Errorf("Below: %v", l)
	}
	if e, e2 := q.Push(at(1, 0, 1)), q.Push(at(1, 0, 2)); e != api.OK || e2 != api.ErrQueueFull {
		t.Errorf("Push behind a Below: %d, %d", e, e2)
	}
	c := q.Clone()
	if e := c.Push(at(1, 0, 2)); e != api.ErrQueueFull {
		t.Errorf("Push to the clone of a full one: %d", e)
	}
	if l := q.Below(5); len(l) != 4096 || q.Len() != 0 || c.Len() != 4096 {
		t.Errorf("Below: %d entries, Len %d, the clone's %d", len(l), q.Len(), c.Len())
	}
}

func TestP15_1KeysUnlikeInOneNumber(t *testing.T) {
	for _, x := range edges {
		for _, y := range edges {
			if x >= y {
				continue
			}
			for i, pair := range [][2]api.Entry{
				{of(int64(x), 2, 3, 1), of(int64(y), 2, 3, 1)},
				{of(2, x, 3, 1), of(2, y, 3, 1)},
				{of(2, 3, x, 1), of(2, 3, y, 1)},
			} {
				q := with(t, pair[1], pair[0])
				has(t, q, pair[0], pair[1])
				if l := pops(q); !slices.Equal(l, pair[:]) {
					t.Errorf("number %d, %d and %d: %v", i, x, y, l)
				}
			}
		}
	}
}

func TestP15_1KeysOfTheSameNumbers(t *testing.T) {
	has(t, with(t, at(3, 2, 1), at(3, 1, 2), at(2, 3, 1), at(2, 1, 3), at(1, 3, 2), at(1, 2, 3)),
		at(1, 2, 3), at(1, 3, 2), at(2, 1, 3), at(2, 3, 1), at(3, 1, 2), at(3, 2, 1))
}

func TestP15_2AheadByFrameSeatNumber(t *testing.T) {
	last := of(math.MaxInt64, math.MaxInt, math.MaxInt, 1)
	l := []api.Entry{
		of(math.MinInt64, math.MaxInt, math.MaxInt, 9), of(-1, 5, 5, 8), of(0, math.MaxInt, 7, 7),
		of(1, math.MinInt, math.MaxInt, 6), of(1, -1, 9, 5), of(1, 0, math.MinInt, 4), of(1, 0, -1, 3),
		of(1, 0, 0, 2), of(1, 0, math.MaxInt, 1), of(1, 1, 0, 0), of(math.MaxInt64, math.MinInt, 0, -1), last,
	}
	q := queue.New()
	for i := range l {
		q.Push(l[i*5%len(l)])
	}
	has(t, q, l...)
	if got := pops(q); !slices.Equal(got, l) {
		t.Errorf("Pop: %v", got)
	}
	has(t, q)
}

func TestP15_2None(t *testing.T) {
	used := with(t, of(1, 2, 3, 4), of(2, 3, 4, 5))
	pops(used)
	cut := with(t, of(1, 2, 3, 4), of(2, 3, 4, 5))
	cut.Below(2)
	for _, q := range []*queue.Queue{queue.New(), used, cut, queue.New().Clone(), used.Clone()} {
		for range 2 {
			if e, is := q.Peek(); e != (api.Entry{}) || is {
				t.Errorf("Peek: %v %v", e, is)
			}
			if e, is := q.Pop(); e != (api.Entry{}) || is {
				t.Errorf("Pop: %v %v", e, is)
			}
		}
		has(t, q)
		if e := q.Push(of(1, 2, 3, 9)); e != api.OK {
			t.Errorf("Push: %d", e)
		}
		has(t, q, of(1, 2, 3, 9))
	}
}

func TestP15_2PeekLeavesPopTakes(t *testing.T) {
	l := []api.Entry{of(1, 0, 1, 1), of(1, 0, 2, 2), of(2, 0, 3, 3)}
	q := with(t, l[2], l[0], l[1])
	for i := range l {
		for range 2 {
			if e, is := q.Peek(); e != l[i] || !is {
				t.Errorf("Peek: %v %v", e, is)
			}
			has(t, q, l[i:]...)
		}
		if e, is := q.Pop(); e != l[i] || !is {
			t.Errorf("Pop: %v %v", e, is)
		}
		has(t, q, l[i+1:]...)
	}
}

func TestP15_2ZeroEntryThatIsThere(t *testing.T) {
	q := with(t, api.Entry{})
	if e, is := q.Peek(); e != (api.Entry{}) || !is {
		t.Errorf("Peek: %v %v", e, is)
	}
	if e := q.Push(of(0, 0, 0, 1)); e != api.ErrQueueTwice {
		t.Errorf("Push: %d", e)
	}
	if e, is := q.Pop(); e != (api.Entry{}) || !is {
		t.Errorf("Pop: %v %v", e, is)
	}
	has(t, q)
}

func TestP15_3Below(t *testing.T) {
	l := []api.Entry{of(-3, 4, 4, 1), of(0, 3, 3, 2), of(2, 0, 9, 3), of(2, 1, 3, 4), of(2, 1, 4, 5), of(7, 0, 0, 6), of(9, 0, 0, 7)}
	for frame, n := range map[int64]int{
		math.MinInt64: 0, -4: 0, -3: 1, -2: 1, -1: 1, 0: 2, 1: 2, 2: 5, 3: 5, 6: 5, 7: 6, 8: 6, 9: 7, 10: 7, 1 << 32: 7, math.MaxInt64: 7,
	} {
		q := with(t, l[5], l[4], l[0], l[6], l[2], l[1], l[3])
		if got := q.Below(frame); !slices.Equal(got, l[:n]) {
			t.Errorf("Below(%d): %v", frame, got)
		}
		has(t, q, l[n:]...)
		if got := q.Below(frame); len(got) != 0 {
			t.Errorf("Below(%d) again: %v", frame, got)
		}
		has(t, q, l[n:]...)
	}
}

func TestP15_3BelowAtTheBounds(t *testing.T) {
	low, high := of(math.MinInt64, 0, 0, 1), of(math.MaxInt64, 0, 0, 2)
	q := with(t, high, low)
	if l := q.Below(math.MinInt64); !slices.Equal(l, []api.Entry{low}) {
		t.Errorf("Below the least: %v", l)
	}
	if l := q.Below(math.MaxInt64 - 1); len(l) != 0 {
		t.Errorf("Below the greatest less 1: %v", l)
	}
	has(t, q, high)
	if l := q.Below(math.MaxInt64); !slices.Equal(l, []api.Entry{high}) {
		t.Errorf("Below the greatest: %v", l)
	}
	has(t, q)
}

func TestP15_3None(t *testing.T) {
	q := queue.New()
	for range 2 {
		for _, f := range edges {
			if l := q.Below(int64(f)); len(l) != 0 {
				t.Errorf("Below(%d): %v", f, l)
			}
		}
		has(t, q)
		q.Push(at(1, 1, 1))
		q.Pop()
	}
}

func TestP15_3AllTwice(t *testing.T) {
	l := []api.Entry{of(1, 0, 1, 1), of(1, 0, 2, 2), of(1, 3, 0, 3), of(2, 0, 3, 4), of(5, 0, 0, 5)}
	q := with(t, l[3], l[4], l[1], l[0], l[2])
	for range 2 {
		has(t, q, l...)
	}
	if got := pops(q); !slices.Equal(got, l) {
		t.Errorf("Pop behind All: %v", got)
	}
}

// spoil writes over a list and over the room behind its end.
func spoil(l []api.Entry) {
	l = l[:cap(l)]
	for i := range l {
		l[i] = at(-77, -7, i)
	}
}

func TestP15_3AnswersAreNewMemory(t *testing.T) {
	var l []api.Entry
	for i := range 13 {
		l = append(l, of(int64(i/3), i%3, i, i))
	}
	for n := range len(l) + 1 {
		q := with(t, l[:n]...)
		c := q.Clone()
		first, second := q.All(), q.All()
		spoil(first)
		if !slices.Equal(second, l[:n]) {
			t.Errorf("%d entries: another answer has changed: %v", n, second)
		}
		has(t, q, l[:n]...)
		has(t, c, l[:n]...)
		gone := min(n, 6)
		low := q.Below(1)
		if !slices.Equal(low, l[:gone]) {
			t.Errorf("%d entries: Below: %v", n, low)
		}
		for _, e := range l[:gone] {
			q.Push(e)
		}
		if !slices.Equal(low, l[:gone]) {
			t.Errorf("%d entries: pushes have changed an answer: %v", n, low)
		}
		spoil(low)
		has(t, q, l[:n]...)
		has(t, c, l[:n]...)
		high := q.Below(9)
		spoil(c.Below(9))
		if !slices.Equal(high, l[:n]) || !slices.Equal(second, l[:n]) {
			t.Errorf("%d entries: another answer has changed", n)
		}
		has(t, q)
		has(t, c)
	}
}

// calls are some of each kind: those that change a queue, and those that must not.
func calls() map[string]func(q *queue.Queue) {
	return map[string]func(q *queue.Queue){
		"Push ahead":  func(q *queue.Queue) { q.Push(of(0, 0, 0, 9)) },
		"Push behind": func(q *queue.Queue) { q.Push(of(9, 0, 0, 9)) },
		"Push twice":  func(q *queue.Queue) { q.Push(of(2, 0, 2, 9)) },
		"Peek":        func(q *queue.Queue) { q.Peek() },
		"Pop":         func(q *queue.Queue) { q.Pop() },
		"Pop, Push":   func(q *queue.Queue) { q.Pop(); q.Push(of(7, 0, 0, 9)) },
		"Below":       func(q *queue.Queue) { q.Below(2) },
		"Below all":   func(q *queue.Queue) { q.Below(math.MaxInt64); q.Push(of(3, 3, 3, 9)) },
		"All":         func(q *queue.Queue) { spoil(q.All()) },
		"Len":         func(q *queue.Queue) { q.Len() },
		"Clone":       func(q *queue.Queue) { q.Clone().Pop() },
	}
}

func TestP15_4Clone(t *testing.T) {
	l := []api.Entry{of(1, 0, 1, 1), of(2, 0, 2, 2), of(2, 1, 3, 3), of(5, 0, 4, 4)}
	for n := range len(l) + 1 {
		for name, call := range calls() {
			alone, q := with(t, l[:n]...), with(t, l[:n]...)
			call(alone)
			c := q.Clone()
			has(t, c, l[:n]...)
			call(q)
			has(t, q, alone.All()...)
			if has(t, c, l[:n]...); t.Failed() {
				t.Fatalf("%s on the first of %d entries is seen at its clone", name, n)
			}
			q = with(t, l[:n]...)
			c = q.Clone()
			call(c)
			has(t, c, alone.All()...)
			if has(t, q, l[:n]...); t.Failed() {
				t.Fatalf("%s on the clone of %d entries is seen at the first", name, n)
			}
		}
	}
}

func TestP15_4CloneOfARoomyOne(t *testing.T) {
	q := with(t, at(1, 0, 1), at(2, 0, 2), at(3, 0, 3), at(4, 0, 4))
	q.Below(2)
	c := q.Clone()
	q.Push(at(9, 0, 9))
	c.Push(at(8, 0, 8))
	has(t, q, at(3, 0, 3), at(4, 0, 4), at(9, 0, 9))
	has(t, c, at(3, 0, 3), at(4, 0, 4), at(8, 0, 8))
	q.Below(9)
	e := q.Clone()
	q.Push(at(5, 0, 5))
	e.Push(at(6, 0, 6))
	has(t, q, at(5, 0, 5))
	has(t, e, at(6, 0, 6))
}
