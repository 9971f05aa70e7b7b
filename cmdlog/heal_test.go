package cmdlog_test

import (
	"slices"
	"testing"

	"echelon/api"
	"echelon/cmdlog"
)

// eachMissed are entries with each Missed that so many rungs allow, at the log's ends and between them.
func eachMissed(rungs int, base int64) []api.Entry {
	var out []api.Entry
	for i, frame := range []int64{base + 1, base + 50, base + 112} {
		for m := range rungs {
			out = append(out, entry(frame, m/3, i*10+m%3+1, m))
		}
	}
	return out
}

func TestP19_4EachRung(t *testing.T) {
	for rungs := 2; rungs <= 5; rungs++ {
		all := eachMissed(rungs, 0)
		l := with(t, 2, rungs, all...)
		for rung := range rungs {
			misses(t, l, rung, missedBy(all, rung)...)
			if n := len(l.Missed(rung)); n != 3*(rungs-1-rung) {
				t.Errorf("Missed(%d) of %d rungs: %d", rung, rungs, n)
			}
		}
		for _, rung := range append([]int{rungs, rungs + 1, 5, 6}, ints...) {
			misses(t, l, rung)
		}
		has(t, l, 0, all...)
	}
}

func TestP19_4NothingMissed(t *testing.T) {
	l := with(t, 2, 3, entry(1, 0, 1, 0), entry(2, 1, 1, 0))
	for rung := -1; rung < 4; rung++ {
		misses(t, l, rung)
	}
}

func TestP19_5EachRung(t *testing.T) {
	for rungs := 2; rungs <= 5; rungs++ {
		for _, base := range []int64{0, 1, 77, 1 << 40} {
			for rung := range rungs {
				l := made(t, 2, rungs)
				purges(t, l, base, 0)
				all := eachMissed(rungs, base)
				puts(t, l, all...)
				l.Heal(rung)
				for i := range all {
					if all[i].Missed <= rung {
						all[i].Missed = 0
					}
				}
				has(t, l, base, all...)
				l.Heal(rung)
				has(t, l, base, all...)
			}
		}
	}
}

func TestP19_5NoRung(t *testing.T) {
	for rungs := 2; rungs <= 5; rungs++ {
		all := eachMissed(rungs, 0)
		l := with(t, 2, rungs, all...)
		for _, rung := range append([]int{rungs, rungs + 1, 6}, ints...) {
			l.Heal(rung)
		}
		has(t, l, 0, all...)
	}
}

// TestP19_5OneBehindTheOther: what one Heal leaves the next one finds.
func TestP19_5OneBehindTheOther(t *testing.T) {
	all := eachMissed(5, 0)
	l := with(t, 2, 5, all...)
	for rung := range 5 {
		l.Heal(rung)
		for i := range all {
			if all[i].Missed == rung {
				all[i].Missed = 0
			}
		}
		has(t, l, 0, all...)
	}
	misses(t, l, 0)
	puts(t, l, entry(9, 0, 99, 4))
	misses(t, l, 3, command(9, 0, 99))
	l.Heal(3)
	misses(t, l, 0, command(9, 0, 99))
	l.Heal(4)
	misses(t, l, 0)
}

func TestP19_5WithoutEntries(t *testing.T) {
	l := made(t, 2, 2)
	for rung := -1; rung < 4; rung++ {
		l.Heal(rung)
	}
	has(t, l, 0)
}

func TestP19_6Frames(t *testing.T) {
	all := []api.Entry{entry(21, 0, 1, 0), entry(21, 1, 1, 1), entry(22, 0, 2, 1), entry(70, 0, 3, 0), entry(131, 1, 2, 1), entry(132, 0, 4, 1), entry(132, 1, 3, 0)}
	for _, x := range []struct {
		frame int64
		base  int64
		gone  int
	}{
		{-1 << 62, 20, 0}, {-1, 20, 0}, {0, 20, 0}, {1, 20, 0}, {19, 20, 0}, {20, 20, 0},
		{21, 21, 2}, {22, 22, 3}, {23, 23, 3}, {69, 69, 3}, {70, 70, 4}, {71, 71, 4}, {130, 130, 4},
		{131, 131, 5}, {132, 132, 7}, {133, 133, 7}, {134, 134, 7}, {243, 243, 7}, {244, 244, 7}, {245, 245, 7},
		{1 << 32, 1 << 32, 7}, {1<<40 - 1, 1<<40 - 1, 7}, {1 << 40, 1 << 40, 7},
		{1<<40 + 1, 20, 0}, {1 << 62, 20, 0}, {1<<63 - 1, 20, 0},
	} {
		l := made(t, 2, 2)
		purges(t, l, 20, 0)
		puts(t, l, all...)
		purges(t, l, x.frame, x.gone)
		has(t, l, x.base, all[x.gone:]...)
		purges(t, l, x.frame, 0)
		has(t, l, x.base, all[x.gone:]...)
	}
}

// TestP19_6FrameByFrame forgets one frame after another, and then as many as are kept, and more.
func TestP19_6FrameByFrame(t *testing.T) {
	for _, stride := range []int64{1, 2, 7, 111, 112, 113, 150, 224, 225} {
		l := made(t, 2, 2)
		base := int64(0)
		for seq := 1; base < 900; seq++ {
			// One at the beginning of what is kept, one at its end.
			puts(t, l, entry(base+1, 0, 2*seq, 0))
			if n := l.Count(base+112, 1); n > 0 {
				t.Fatalf("stride %d: %d at frame %d, where none was put", stride, n, base+112)
			}
			puts(t, l, entry(base+112, 1, 2*seq+1, 1))
			kept := l.All()
			base += stride
			gone := 0
			for gone < len(kept) && kept[gone].Command.Frame <= base {
				gone++
			}
			purges(t, l, base, gone)
			if got := l.All(); !slices.Equal(got, kept[gone:]) || l.Base() != base {
				t.Fatalf("stride %d: base %d, %v, meant %d, %v", stride, l.Base(), got, base, kept[gone:])
			}
		}
	}
}

// TestP19_6FramesAreKeptAgain: each place of the ring is taken many times, and has nothing of what was there.
func TestP19_6FramesAreKeptAgain(t *testing.T) {
	l := made(t, 6, 5)
	var kept []api.Entry
	for frame := int64(1); frame <= 5*112; frame++ {
		if frame > 112 {
			gone := 0
			for gone < len(kept) && kept[gone].Command.Frame == frame-112 {
				gone++
			}
			purges(t, l, frame-112, gone)
			kept = kept[gone:]
		}
		if n := len(l.At(frame)); n != 0 {
			t.Fatalf("frame %d: %d are there already", frame, n)
		}
		for peer := range int(frame % 7) {
			for i := range int(frame+int64(peer)) % 4 {
				x := entry(frame, peer, int(frame)*3+i, (peer+i)%5)
				puts(t, l, x)
				kept = append(kept, x)
			}
		}
		if !slices.Equal(l.All(), kept) || l.Len() != len(kept) {
			t.Fatalf("frame %d: %v, meant %v", frame, l.All(), kept)
		}
	}
	has(t, l, 4*112, kept...)
}

// TestP19_6MayBePutAgain: what was purged is not there, so its seat and number may be put anew; what was not is there still.
func TestP19_6MayBePutAgain(t *testing.T) {
	l := with(t, 2, 3, entry(1, 0, 1, 2), entry(1, 0, 2, 1), entry(1, 0, 3, 0), entry(2, 1, 1, 1))
	purges(t, l, 1, 3)
	refuses(t, l, command(1, 0, 1), 0, api.ErrLogFrame)
	refuses(t, l, command(3, 1, 1), 0, api.ErrLogTwice)
	puts(t, l, entry(2, 0, 1, 0), entry(113, 0, 2, 2), entry(113, 0, 3, 1), entry(113, 0, 4, 0))
	refuses(t, l, command(113, 0, 5), 0, api.ErrLogFull)
	refuses(t, l, command(5, 0, 1), 0, api.ErrLogTwice)
	has(t, l, 1, entry(2, 0, 1, 0), entry(2, 1, 1, 1), entry(113, 0, 2, 2), entry(113, 0, 3, 1), entry(113, 0, 4, 0))
	purges(t, l, 1<<40, 5)
	puts(t, l, entry(1<<40+1, 0, 1, 1), entry(1<<40+112, 1, 1, 2))
	has(t, l, 1<<40, entry(1<<40+1, 0, 1, 1), entry(1<<40+112, 1, 1, 2))
	purges(t, l, 1<<40, 0)
	purges(t, l, 1<<40+1, 0)
	has(t, l, 1<<40, entry(1<<40+1, 0, 1, 1), entry(1<<40+112, 1, 1, 2))
}

// TestP19_1TwoLogs: they know nothing of one another.
func TestP19_1TwoLogs(t *testing.T) {
	a, b := made(t, 2, 2), made(t, 6, 5)
	puts(t, a, entry(1, 0, 1, 1), entry(4, 1, 1, 1))
	has(t, b, 0)
	puts(t, b, entry(1, 0, 1, 4), entry(1, 5, 1, 0))
	refuses(t, a, command(1, 5, 1), 0, api.ErrArg)
	refuses(t, a, command(2, 1, 2), 4, api.ErrArg)
	a.Heal(1)
	has(t, b, 0, entry(1, 0, 1, 4), entry(1, 5, 1, 0))
	purges(t, b, 3, 2)
	has(t, a, 0, entry(1, 0, 1, 0), entry(4, 1, 1, 0))
	puts(t, b, entry(115, 0, 1, 3))
	refuses(t, a, command(115, 0, 2), 0, api.ErrLogFrame)
	has(t, b, 3, entry(115, 0, 1, 3))
	var logs []*cmdlog.Log
	for i := range 20 {
		logs = append(logs, with(t, 2, 2, entry(int64(i+1), 0, 1, 1)))
	}
	for i, l := range logs {
		has(t, l, 0, entry(int64(i+1), 0, 1, 1))
	}
}
