package cmdlog_test

import (
	"math"
	"slices"
	"testing"

	"echelon/api"
	"echelon/cmdlog"
)

// ints are numbers at which a reading may go wrong: about 0, at half a word, at the bounds of their type.
var ints = []int{math.MinInt, math.MinInt + 1, -1 << 32, -1<<32 - 1, -2, -1, 1<<31 - 1, 1 << 31, 1 << 32, 1<<32 + 1, math.MaxInt - 1, math.MaxInt}

// farFrames are frames that no log of these tests keeps, or that are just beside those that may be.
var farFrames = []int64{math.MinInt64, math.MinInt64 + 1, -1 << 40, -113, -112, -111, -2, -1, 0, 1<<40 + 113, 1 << 62, math.MaxInt64 - 112, math.MaxInt64 - 1, math.MaxInt64}

// command is one of a frame, a seat and a number; its order tells them apart.
func command(frame int64, peer, seq int) api.Command {
	return api.Command{Frame: frame, Peer: peer, Seq: seq, Order: api.Order{Verb: api.Say, A: seq & 255}}
}

func entry(frame int64, peer, seq, missed int) api.Entry {
	return api.Entry{Command: command(frame, peer, seq), Missed: missed}
}

func made(t *testing.T, peers, rungs int) *cmdlog.Log {
	t.Helper()
	l, e := cmdlog.New(peers, rungs)
	if l == nil || e != api.OK {
		t.Fatalf("New(%d, %d): %v %d", peers, rungs, l, e)
	}
	return l
}

// puts takes some in.
func puts(t *testing.T, l *cmdlog.Log, entries ...api.Entry) {
	t.Helper()
	for _, x := range entries {
		if e := l.Put(x.Command, x.Missed); e != api.OK {
			t.Fatalf("Put(%v, %d): %d", x.Command, x.Missed, e)
		}
	}
}

// with is a log with some entries.
func with(t *testing.T, peers, rungs int, entries ...api.Entry) *cmdlog.Log {
	t.Helper()
	l := made(t, peers, rungs)
	puts(t, l, entries...)
	return l
}

// purges forgets up to a frame, and holds it to be so many.
func purges(t *testing.T, l *cmdlog.Log, frame int64, n int) {
	t.Helper()
	if got := l.Purge(frame); got != n {
		t.Errorf("Purge(%d): %d, meant %d", frame, got, n)
	}
}

// has holds a log to be at a base, and to have just these entries, in this order, by all that it tells.
func has(t *testing.T, l *cmdlog.Log, base int64, entries ...api.Entry) {
	t.Helper()
	if got := l.Base(); got != base {
		t.Errorf("Base: %d, meant %d", got, base)
	}
	if got := l.All(); !slices.Equal(got, entries) {
		t.Errorf("All: %v, meant %v", got, entries)
	}
	if got := l.Len(); got != len(entries) {
		t.Errorf("Len: %d, meant %d", got, len(entries))
	}
	for frame := base - 3; frame <= base+115; frame++ {
		var here []api.Entry
		var by [8]int
		for _, x := range entries {
			if x.Command.Frame == frame {
				here = append(here, x)
				by[x.Command.Peer+1]++
			}
		}
		if got := l.At(frame); !slices.Equal(got, here) {
			t.Errorf("At(%d): %v, meant %v", frame, got, here)
		}
		for i, n := range by {
			if got := l.Count(frame, i-1); got != n {
				t.Errorf("Count(%d, %d): %d, meant %d", frame, i-1, got, n)
			}
		}
	}
	for rung := -1; rung < 6; rung++ {
		misses(t, l, rung, missedBy(entries, rung)...)
	}
}

// missedBy are the commands that a rung has missed. Of a rung below 0 there are none; an entry's Missed is always below the number of rungs, so the greatest one needs no bound.
func missedBy(entries []api.Entry, rung int) []api.Command {
	var out []api.Command
	for _, x := range entries {
		if rung >= 0 && x.Missed > rung {
			out = append(out, x.Command)
		}
	}
	return out
}

func misses(t *testing.T, l *cmdlog.Log, rung int, commands ...api.Command) {
	t.Helper()
	if got := l.Missed(rung); !slices.Equal(got, commands) {
		t.Errorf("Missed(%d): %v, meant %v", rung, got, commands)
	}
}

// refuses holds a log to refuse a command, and to be unchanged when it has said so.
func refuses(t *testing.T, l *cmdlog.Log, c api.Command, missed int, want api.Errno) {
	t.Helper()
	base, all := l.Base(), l.All()
	if e := l.Put(c, missed); e != want {
		t.Errorf("Put(%v, %d): %d, meant %d", c, missed, e, want)
	}
	if l.Base() != base || l.Len() != len(all) || !slices.Equal(l.All(), all) {
		t.Errorf("Put(%v, %d) is refused, and has changed the log", c, missed)
	}
}

func TestP19_2Examples(t *testing.T) {
	l := made(t, 2, 3)
	puts(t, l, entry(1, 0, 1, 2), entry(1, 0, 2, 1), entry(1, 1, 1, 0))
	misses(t, l, 0, command(1, 0, 1), command(1, 0, 2))
	misses(t, l, 1, command(1, 0, 1))
	misses(t, l, 2)
	l.Heal(1)
	misses(t, l, 0, command(1, 0, 1))
	misses(t, l, 1, command(1, 0, 1))
	for frame := int64(1); frame <= 112; frame++ {
		refuses(t, l, command(frame, 0, 1), 0, api.ErrLogTwice)
	}
	refuses(t, l, command(113, 0, 5), 0, api.ErrLogFrame)
	purges(t, l, 1, 3)
	has(t, l, 1)
	refuses(t, l, command(1, 0, 6), 0, api.ErrLogFrame)
	puts(t, l, entry(113, 0, 6, 0), entry(112, 0, 5, 0))
	has(t, l, 1, entry(112, 0, 5, 0), entry(113, 0, 6, 0))
	if l, e := cmdlog.New(2, 6); l != nil || e != api.ErrArg {
		t.Errorf("New(2, 6): %v %d", l, e)
	}
}

func TestP19_1New(t *testing.T) {
	numbers := append([]int{0, 1, 2, 3, 4, 5, 6, 7, 8}, ints...)
	for _, peers := range numbers {
		for _, rungs := range numbers {
			l, e := cmdlog.New(peers, rungs)
			if peers < 2 || peers > 6 || rungs < 2 || rungs > 5 {
				if l != nil || e != api.ErrArg {
					t.Errorf("New(%d, %d): %v %d", peers, rungs, l, e)
				}
				continue
			}
			if l == nil || e != api.OK {
				t.Fatalf("New(%d, %d): %v %d", peers, rungs, l, e)
			}
			has(t, l, 0)
		}
	}
}

// TestP19_1PeersAndRungs: the two numbers bound what may be put, each on its own.
func TestP19_1PeersAndRungs(t *testing.T) {
	for peers := 2; peers <= 6; peers++ {
		for rungs := 2; rungs <= 5; rungs++ {
			l := made(t, peers, rungs)
			refuses(t, l, command(1, -1, 1), 0, api.ErrArg)
			refuses(t, l, command(1, peers, 1), 0, api.ErrArg)
			refuses(t, l, command(1, 0, 1), -1, api.ErrArg)
			refuses(t, l, command(1, 0, 1), rungs, api.ErrArg)
			puts(t, l, entry(1, peers-1, 1, rungs-1), entry(1, 0, 1, 0))
			has(t, l, 0, entry(1, 0, 1, 0), entry(1, peers-1, 1, rungs-1))
		}
	}
}

func TestP19_2WrongNumbers(t *testing.T) {
	l := with(t, 3, 4, entry(5, 1, 7, 2))
	for _, n := range append([]int{3, 4}, ints...) {
		refuses(t, l, command(6, n, 1), 0, api.ErrArg)
	}
	for _, n := range append([]int{4, 5}, ints...) {
		refuses(t, l, command(6, 0, 1), n, api.ErrArg)
	}
	for _, n := range []int{math.MinInt, -1 << 40, -1, 0, 1<<40 + 1, 1<<40 + 2, 1 << 41, 1 << 62, math.MaxInt} {
		refuses(t, l, command(6, 0, n), 0, api.ErrArg)
	}
	has(t, l, 0, entry(5, 1, 7, 2))
	puts(t, l, entry(6, 0, 1, 3), entry(6, 2, 1<<40, 0), entry(6, 2, 1<<40-1, 1))
	has(t, l, 0, entry(5, 1, 7, 2), entry(6, 0, 1, 3), entry(6, 2, 1<<40-1, 1), entry(6, 2, 1<<40, 0))
}

// TestP19_2Frames: the frames that are kept, at each base and behind it.
func TestP19_2Frames(t *testing.T) {
	for _, base := range []int64{0, 1, 2, 55, 111, 112, 113, 223, 224, 225, 1000, 1 << 31, 1 << 32, 1<<40 - 113, 1<<40 - 112, 1<<40 - 1, 1 << 40} {
		l := made(t, 2, 2)
		purges(t, l, base, 0)
		for _, frame := range append([]int64{base - 113, base - 112, base - 111, base - 1, base, base + 113, base + 114, base + 224, base + 225}, math.MinInt64, math.MinInt64+112, math.MaxInt64-112, math.MaxInt64) {
			refuses(t, l, command(frame, 0, 1), 0, api.ErrLogFrame)
		}
		puts(t, l, entry(base+112, 0, 1, 0), entry(base+1, 0, 2, 1), entry(base+111, 1, 1, 1), entry(base+2, 1, 2, 0))
		has(t, l, base, entry(base+1, 0, 2, 1), entry(base+2, 1, 2, 0), entry(base+111, 1, 1, 1), entry(base+112, 0, 1, 0))
	}
}

// TestP19_2EachFrame: each frame that is kept has a place of its own.
func TestP19_2EachFrame(t *testing.T) {
	for _, base := range []int64{0, 1, 60, 111, 112, 500} {
		l := made(t, 2, 2)
		purges(t, l, base, 0)
		var all []api.Entry
		for i := range int64(112) {
			frame := base + 1 + i*37%112 // 37 and 112 share no divisor: each frame once, in no order
			x := entry(frame, int(i%2), int(i+1), int(i/2%2))
			puts(t, l, x)
			all = append(all, x)
		}
		slices.SortFunc(all, func(a, b api.Entry) int { return int(a.Command.Frame - b.Command.Frame) })
		has(t, l, base, all...)
	}
}

func TestP19_2Twice(t *testing.T) {
	l := with(t, 3, 3, entry(4, 1, 9, 2), entry(112, 1, 3, 0))
	for _, frame := range []int64{1, 3, 4, 5, 111, 112} {
		for missed := range 3 {
			refuses(t, l, command(frame, 1, 9), missed, api.ErrLogTwice)
			refuses(t, l, command(frame, 1, 3), missed, api.ErrLogTwice)
		}
	}
	other := command(4, 1, 9)
	other.Order = api.Order{Verb: api.Halt}
	refuses(t, l, other, 0, api.ErrLogTwice)
	// The same number of another seat, and another number of this seat, are other commands.
	puts(t, l, entry(4, 0, 9, 0), entry(4, 2, 9, 1), entry(4, 1, 8, 0), entry(4, 1, 10, 1))
	has(t, l, 0, entry(4, 0, 9, 0), entry(4, 1, 8, 0), entry(4, 1, 9, 2), entry(4, 1, 10, 1), entry(4, 2, 9, 1), entry(112, 1, 3, 0))
}

// TestP19_2NumbersThatLookAlike: numbers that are the same in their lower half are others.
func TestP19_2NumbersThatLookAlike(t *testing.T) {
	l := with(t, 2, 2, entry(1, 0, 1, 0), entry(1, 0, 1+1<<32, 1), entry(1, 0, 1<<40, 0), entry(2, 0, 1<<32, 1))
	refuses(t, l, command(3, 0, 1+1<<32), 0, api.ErrLogTwice)
	refuses(t, l, command(3, 0, 1<<40), 0, api.ErrLogTwice)
	has(t, l, 0, entry(1, 0, 1, 0), entry(1, 0, 1+1<<32, 1), entry(1, 0, 1<<40, 0), entry(2, 0, 1<<32, 1))
}

func TestP19_2Full(t *testing.T) {
	for peer := range 6 {
		l := made(t, 6, 2)
		for other := range 6 { // two of each seat: they don't count for one another
			puts(t, l, entry(7, other, 1, 0), entry(7, other, 2, 1))
		}
		puts(t, l, entry(7, peer, 3, 1))
		if n := l.Count(7, peer); n != 3 {
			t.Errorf("Count: %d", n)
		}
		for missed := range 2 {
			refuses(t, l, command(7, peer, 4), missed, api.ErrLogFull)
		}
		// Another frame of this seat, and another seat on this frame, have room.
		puts(t, l, entry(8, peer, 4, 0), entry(6, peer, 5, 0), entry(7, (peer+1)%6, 3, 0))
		refuses(t, l, command(7, (peer+1)%6, 4), 0, api.ErrLogFull)
		if l.Len() != 16 || len(l.At(7)) != 14 {
			t.Errorf("Len %d, at the frame %d", l.Len(), len(l.At(7)))
		}
	}
}

// TestP19_2AnyOrder: an order that may not be is kept as it is.
func TestP19_2AnyOrder(t *testing.T) {
	orders := []api.Order{{}, {Verb: -1}, {Verb: 8, A: 1}, {Verb: api.Fire, A: 99}, {Verb: math.MinInt, A: math.MaxInt, B: math.MinInt, C: math.MaxInt}, {Verb: api.Halt, A: 1, B: 2, C: 3}}
	l := made(t, 2, 2)
	var all []api.Entry
	for i, o := range orders {
		x := api.Entry{Command: api.Command{Frame: int64(i + 1), Peer: 1, Seq: i + 1, Order: o}, Missed: 1}
		puts(t, l, x)
		all = append(all, x)
	}
	has(t, l, 0, all...)
	l.Heal(1)
	for i := range all {
		all[i].Missed = 0
	}
	has(t, l, 0, all...)
}

// TestP19_2OrderOfErrors: where several are so, the one that the promise names first is told.
func TestP19_2OrderOfErrors(t *testing.T) {
	l := with(t, 2, 2, entry(1, 0, 1, 0), entry(1, 0, 2, 1), entry(1, 0, 3, 0))
	for _, x := range []struct {
		c      api.Command
		missed int
		want   api.Errno
	}{
		{command(0, -1, 1), 0, api.ErrArg},           // no seat, no frame
		{command(113, 2, 1), 0, api.ErrArg},          // no seat, no frame
		{command(113, 0, 0), 0, api.ErrArg},          // no number, no frame
		{command(113, 0, 1<<40+1), 0, api.ErrArg},    // no number, no frame
		{command(113, 0, 1), 2, api.ErrArg},          // no missed, no frame, twice
		{command(0, 0, 1), -1, api.ErrArg},           // no missed, no frame, twice
		{command(1, 0, 1), 2, api.ErrArg},            // no missed, twice, full
		{command(1, 0, 4), 2, api.ErrArg},            // no missed, full
		{command(1, 0, 0), 0, api.ErrArg},            // no number, full
		{command(0, 0, 1), 0, api.ErrLogFrame},       // no frame, twice
		{command(113, 0, 2), 1, api.ErrLogFrame},     // no frame, twice, where its place is full
		{command(113, 0, 4), 0, api.ErrLogFrame},     // no frame, where its place is full
		{command(-111, 0, 4), 0, api.ErrLogFrame},    // likewise
		{command(1, 0, 1), 0, api.ErrLogTwice},       // twice, full
		{command(1, 0, 3), 1, api.ErrLogTwice},       // twice, full
		{command(1, 0, 4), 1, api.ErrLogFull},        // full alone
		{command(1, 0, 1<<40), 0, api.ErrLogFull},    // full alone
		{command(2, 0, 2), 0, api.ErrLogTwice},       // twice alone
		{command(113, 1, 1<<40), 0, api.ErrLogFrame}, // no frame alone
	} {
		refuses(t, l, x.c, x.missed, x.want)
	}
	has(t, l, 0, entry(1, 0, 1, 0), entry(1, 0, 2, 1), entry(1, 0, 3, 0))
}

func TestP19_3Nothing(t *testing.T) {
	l := with(t, 3, 2, entry(1, 0, 1, 0), entry(1, 1, 1, 0), entry(112, 2, 1, 1))
	for _, frame := range append([]int64{2, 111, 113, 114, 224}, farFrames...) {
		if got := l.At(frame); len(got) != 0 {
			t.Errorf("At(%d): %v", frame, got)
		}
		for _, peer := range append([]int{0, 1, 2, 3}, ints...) {
			if n := l.Count(frame, peer); n != 0 {
				t.Errorf("Count(%d, %d): %d", frame, peer, n)
			}
		}
	}
	for _, frame := range []int64{1, 112} {
		for _, peer := range append([]int{3, 4, 5, 6}, ints...) {
			if n := l.Count(frame, peer); n != 0 {
				t.Errorf("Count(%d, %d): %d", frame, peer, n)
			}
		}
	}
	has(t, l, 0, entry(1, 0, 1, 0), entry(1, 1, 1, 0), entry(112, 2, 1, 1))
}

// TestP19_3Order: however they are put, they are told by frames, seats and numbers.
func TestP19_3Order(t *testing.T) {
	want := []api.Entry{entry(2, 0, 9, 1), entry(2, 1, 3, 0), entry(2, 1, 4, 2), entry(2, 2, 1, 1), entry(3, 0, 1, 2), entry(3, 2, 2, 0)}
	var each func(l []api.Entry, i int)
	each = func(l []api.Entry, i int) {
		if i < len(l) {
			for j := i; j < len(l); j++ {
				l[i], l[j] = l[j], l[i]
				each(l, i+1)
				l[i], l[j] = l[j], l[i]
			}
			return
		}
		log := with(t, 3, 3, l...)
		if got := log.All(); !slices.Equal(got, want) {
			t.Fatalf("put %v, All %v", l, got)
		}
		if got := log.At(2); !slices.Equal(got, want[:4]) {
			t.Fatalf("put %v, At(2) %v", l, got)
		}
		misses(t, log, 0, missedBy(want, 0)...)
	}
	each(slices.Clone(want), 0)
	has(t, with(t, 3, 3, want...), 0, want...)
}

// TestP19_3OrderAcrossTheRing: the order is that of frames, wherever the base stands.
func TestP19_3OrderAcrossTheRing(t *testing.T) {
	for base := range int64(230) {
		l := made(t, 2, 2)
		purges(t, l, base, 0)
		all := []api.Entry{entry(base+1, 1, 4, 1), entry(base+40, 0, 3, 1), entry(base+80, 1, 2, 1), entry(base+112, 0, 1, 1)}
		puts(t, l, all[2], all[0], all[3], all[1])
		if got := l.All(); !slices.Equal(got, all) {
			t.Fatalf("base %d: %v", base, got)
		}
		misses(t, l, 0, missedBy(all, 0)...)
	}
}
