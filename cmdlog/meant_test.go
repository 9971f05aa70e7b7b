package cmdlog_test

import (
	"math/rand"
	"slices"
	"testing"

	"echelon/api"
	"echelon/cmdlog"
)

// meant is the chapter read a second time, by other means: one list, in the order in which its entries were put, which is gone through anew each time.
type meant struct {
	peers, rungs int
	base         int64
	list         []api.Entry
}

func (m *meant) put(c api.Command, missed int) api.Errno {
	if c.Peer < 0 || c.Peer >= m.peers || c.Seq < 1 || c.Seq > 1<<40 || missed < 0 || missed >= m.rungs {
		return 1
	}
	if c.Frame <= m.base || c.Frame > m.base+112 {
		return 190
	}
	here := 0
	for _, x := range m.list {
		if x.Command.Peer == c.Peer && x.Command.Seq == c.Seq {
			return 191
		}
		if x.Command.Peer == c.Peer && x.Command.Frame == c.Frame {
			here++
		}
	}
	if here == 3 {
		return 192
	}
	m.list = append(m.list, api.Entry{Command: c, Missed: missed})
	return 0
}

// ahead tells whether a stands ahead of b.
func ahead(a, b api.Command) bool {
	if a.Frame != b.Frame {
		return a.Frame < b.Frame
	}
	if a.Peer != b.Peer {
		return a.Peer < b.Peer
	}
	return a.Seq < b.Seq
}

// those are the entries of which a function says so, each put ahead of those that it is ahead of.
func (m *meant) those(is func(api.Entry) bool) []api.Entry {
	var out []api.Entry
	for _, x := range m.list {
		if !is(x) {
			continue
		}
		i := len(out)
		for i > 0 && ahead(x.Command, out[i-1].Command) {
			i--
		}
		out = slices.Insert(out, i, x)
	}
	return out
}

func (m *meant) all() []api.Entry { return m.those(func(api.Entry) bool { return true }) }

func (m *meant) at(frame int64) []api.Entry {
	return m.those(func(x api.Entry) bool { return x.Command.Frame == frame })
}

func (m *meant) count(frame int64, peer int) int {
	return len(m.those(func(x api.Entry) bool { return x.Command.Frame == frame && x.Command.Peer == peer }))
}

func (m *meant) missed(rung int) []api.Command {
	var out []api.Command
	for _, x := range m.all() {
		if rung >= 0 && rung < m.rungs && x.Missed > rung {
			out = append(out, x.Command)
		}
	}
	return out
}

func (m *meant) heal(rung int) {
	for i := range m.list {
		if rung >= 0 && rung < m.rungs && m.list[i].Missed <= rung {
			m.list[i].Missed = 0
		}
	}
}

func (m *meant) purge(frame int64) int {
	if frame <= m.base || frame > 1<<40 {
		return 0
	}
	n := len(m.list)
	m.list = slices.DeleteFunc(m.list, func(x api.Entry) bool { return x.Command.Frame <= frame })
	m.base = frame
	return n - len(m.list)
}

// drawnFrame is mostly one that is kept, often near its ends, seldom one far off.
func drawnFrame(r *rand.Rand, base int64) int64 {
	switch r.Intn(12) {
	case 0:
		return base - 2 + r.Int63n(5)
	case 1:
		return base + 110 + r.Int63n(5)
	case 2:
		return farFrames[r.Intn(len(farFrames))]
	case 3:
		return base + 1 + r.Int63n(112)
	}
	return base + 1 + r.Int63n(9)
}

// drawnSmall is mostly 0 to n - 1, at times just beside it, seldom far off.
func drawnSmall(r *rand.Rand, n int) int {
	if r.Intn(40) == 0 {
		return ints[r.Intn(len(ints))]
	}
	if r.Intn(12) == 0 {
		return r.Intn(n+2) - 1
	}
	return r.Intn(n)
}

func drawnSeq(r *rand.Rand) int {
	if r.Intn(20) == 0 {
		return []int{-1, 0, 1, 1<<40 - 1, 1 << 40, 1<<40 + 1}[r.Intn(6)]
	}
	return 1 + r.Intn(60)
}

// agrees holds all that a log tells against what is meant; what it answers is written over then.
func agrees(t *testing.T, r *rand.Rand, l *cmdlog.Log, m *meant) {
	t.Helper()
	all := l.All()
	if !slices.Equal(all, m.all()) || l.Len() != len(m.list) || l.Base() != m.base {
		t.Fatalf("base %d, %d entries: %v, meant base %d: %v", l.Base(), l.Len(), all, m.base, m.all())
	}
	spoilEntries(all)
	for range 3 {
		frame, peer, rung := drawnFrame(r, m.base), drawnSmall(r, m.peers), drawnSmall(r, m.rungs)
		at, missed := l.At(frame), l.Missed(rung)
		if !slices.Equal(at, m.at(frame)) {
			t.Fatalf("At(%d): %v, meant %v", frame, at, m.at(frame))
		}
		if n := l.Count(frame, peer); n != m.count(frame, peer) {
			t.Fatalf("Count(%d, %d): %d, meant %d", frame, peer, n, m.count(frame, peer))
		}
		if !slices.Equal(missed, m.missed(rung)) {
			t.Fatalf("Missed(%d): %v, meant %v", rung, missed, m.missed(rung))
		}
		spoilEntries(at)
		spoilCommands(missed)
	}
}

// TestP19_2Meant plays at random, and holds every answer against what is meant. Each answer of Put must have been seen often enough.
func TestP19_2Meant(t *testing.T) {
	r := rand.New(rand.NewSource(192))
	seen := map[api.Errno]int{}
	for range 150 {
		m := &meant{peers: 2 + r.Intn(5), rungs: 2 + r.Intn(4)}
		l := made(t, m.peers, m.rungs)
		for range 250 {
			switch n := r.Intn(40); {
			case n < 34:
				c := command(drawnFrame(r, m.base), drawnSmall(r, m.peers), drawnSeq(r))
				missed := drawnSmall(r, m.rungs)
				e, e2 := l.Put(c, missed), m.put(c, missed)
				if e != e2 {
					t.Fatalf("Put(%v, %d) at base %d: %d, meant %d", c, missed, m.base, e, e2)
				}
				seen[e2]++
			case n < 37:
				rung := drawnSmall(r, m.rungs)
				l.Heal(rung)
				m.heal(rung)
			default:
				frame := m.base - 1 + r.Int63n(6)
				if r.Intn(10) == 0 {
					frame = drawnFrame(r, m.base)
				}
				if got, want := l.Purge(frame), m.purge(frame); got != want {
					t.Fatalf("Purge(%d): %d, meant %d", frame, got, want)
				}
			}
			agrees(t, r, l, m)
		}
	}
	for _, e := range []api.Errno{0, 1, 190, 191, 192} {
		if seen[e] < 300 {
			t.Errorf("Put answered %d only %d times", e, seen[e])
		}
	}
}
