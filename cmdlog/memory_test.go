package cmdlog_test

import (
	"runtime"
	"slices"
	"testing"

	"echelon/api"
)

// spoilEntries writes over entries and over the room behind their end.
func spoilEntries(l []api.Entry) {
	l = l[:cap(l)]
	for i := range l {
		l[i] = api.Entry{Command: api.Command{Frame: -1, Peer: -2, Seq: -3, Order: api.Order{Verb: -4}}, Missed: 77}
	}
}

// spoilCommands writes over commands and over the room behind their end.
func spoilCommands(l []api.Command) {
	l = l[:cap(l)]
	for i := range l {
		l[i] = api.Command{Frame: -1, Peer: -2, Seq: -3, Order: api.Order{Verb: -4}}
	}
}

// some are n entries, in order, up to 9 on a frame, which rung 0 has missed.
func some(n int) []api.Entry {
	var out []api.Entry
	for i := range n {
		out = append(out, entry(int64(i/9+1), i/3%3, i+1, 1+i%2))
	}
	return out
}

// TestP19_3AnswersAreNewMemory: who writes into an answer, or behind it, changes nothing of the log, nor of another answer.
func TestP19_3AnswersAreNewMemory(t *testing.T) {
	for n := range 40 {
		all := some(n + 1)
		l := with(t, 3, 3, all[:n]...)
		last := int64(1)
		if n > 0 {
			last = all[n-1].Command.Frame
		}
		here := slices.DeleteFunc(slices.Clone(all[:n]), func(x api.Entry) bool { return x.Command.Frame != last })
		for range 2 {
			everything, more := l.All(), l.All()
			at, moreAt := l.At(last), l.At(last)
			missed, moreMissed := l.Missed(0), l.Missed(0)
			spoilEntries(everything)
			spoilEntries(at)
			spoilCommands(missed)
			if !slices.Equal(more, all[:n]) || !slices.Equal(moreAt, here) || !slices.Equal(moreMissed, missedBy(all[:n], 0)) {
				t.Fatalf("%d entries: what one answer was written over with is seen in another one", n)
			}
			has(t, l, 0, all[:n]...)
			spoilEntries(moreAt)
			if !slices.Equal(more, all[:n]) {
				t.Fatalf("%d entries: At and All share memory", n)
			}
		}
		// What is put next is not written where an answer could be, nor an answer where it is.
		at := l.At(all[n].Command.Frame)
		told := l.All()
		puts(t, l, all[n])
		spoilEntries(at)
		has(t, l, 0, all...)
		if !slices.Equal(told, all[:n]) {
			t.Fatalf("%d entries: what All has told has changed", n)
		}
	}
}

// TestP19_3AnswersStay: what was told stays so, whatever the log does then.
func TestP19_3AnswersStay(t *testing.T) {
	all := some(30)
	l := with(t, 4, 3, all...)
	told, at, missed := l.All(), l.At(2), l.Missed(0)
	l.Heal(2)
	puts(t, l, entry(2, 3, 99, 0), entry(4, 3, 98, 1))
	refuses(t, l, command(3, 3, 99), 0, api.ErrLogTwice)
	purges(t, l, 2, 19)
	puts(t, l, entry(113, 0, 1, 2), entry(114, 0, 2, 2), entry(114, 1, 2, 2), entry(114, 2, 2, 2))
	purges(t, l, 500, 17)
	if !slices.Equal(told, all) || !slices.Equal(at, all[9:18]) || !slices.Equal(missed, missedBy(all, 0)) {
		t.Errorf("what was told has changed: %v, %v, %v", told, at, missed)
	}
}

// TestP19_6LongGame: what is forgotten is not kept, so a long game needs no more room than a short one.
func TestP19_6LongGame(t *testing.T) {
	l := made(t, 6, 5)
	seq := 0
	play := func(frames int) {
		for range frames {
			frame := l.Base() + 112
			for peer := range 6 {
				for range 3 {
					seq++
					puts(t, l, entry(frame, peer, seq, seq%5))
				}
			}
			l.Heal(seq % 5)
			l.Purge(l.Base() + 1)
		}
	}
	room := func() uint64 {
		var m runtime.MemStats
		runtime.GC()
		runtime.ReadMemStats(&m)
		return m.HeapAlloc
	}
	play(300)
	first := room()
	play(1200)
	if last := room(); last > first+1<<20 {
		t.Errorf("%d bytes at first, %d at last", first, last)
	}
	if n := l.Len(); n != 111*18 {
		t.Errorf("Len: %d", n)
	}
	purges(t, l, 1<<40, 111*18)
	if with, without := first, room(); without > with {
		t.Errorf("%d bytes with entries, %d without", with, without)
	}
	has(t, l, 1<<40)
}
