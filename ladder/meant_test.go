package ladder_test

import (
	"math/rand"
	"slices"
	"testing"

	"echelon/api"
	"echelon/clone"
	"echelon/ladder"
	"echelon/verb"
	"echelon/world"
)

// meant is the chapter read a second time, by other means: no copy is kept, but which commands there are, and which rungs have missed each; a copy is run anew out of these.
type meant struct {
	c      api.Config
	frames []int64
	held   []heldCommand
}

type heldCommand struct {
	api.Command
	missed [5]bool // by rungs
}

func meantOf(c api.Config) *meant { return &meant{c: c, frames: make([]int64, len(c.Lags))} }

func (m *meant) last() int { return len(m.frames) - 1 }

func (m *meant) hind() int64 { return m.frames[m.last()] }

func (m *meant) put(c api.Command) api.Errno {
	if verb.Check(c.Order) != 0 || c.Peer < 0 || c.Peer >= m.c.Peers || c.Seq < 1 || c.Seq > 1<<40 {
		return 1
	}
	if c.Frame <= m.hind() || c.Frame > m.hind()+112 {
		return 190
	}
	here := 0
	for _, x := range m.held {
		if x.Frame > m.hind() && x.Peer == c.Peer && x.Seq == c.Seq {
			return 191
		}
		if x.Peer == c.Peer && x.Frame == c.Frame {
			here++
		}
	}
	if here == 3 {
		return 192
	}
	x := heldCommand{Command: c}
	for rung, frame := range m.frames {
		x.missed[rung] = frame >= c.Frame
	}
	m.held = append(m.held, x)
	return 0
}

// those are the commands of which a function says so, in order.
func (m *meant) those(is func(heldCommand) bool) []api.Command {
	var out []api.Command
	for _, x := range m.held {
		if is(x) {
			out = append(out, x.Command)
		}
	}
	slices.SortFunc(out, func(a, b api.Command) int {
		for _, d := range []int64{a.Frame - b.Frame, int64(a.Peer - b.Peer), int64(a.Seq - b.Seq)} {
			if d != 0 {
				return int(d)
			}
		}
		return 0
	})
	return out
}

// missedBy are the commands that a rung has missed.
func (m *meant) missedBy(rung int) []api.Command {
	return m.those(func(x heldCommand) bool { return rung >= 0 && rung <= m.last() && x.missed[rung] })
}

// kept are the entries that the hindmost rung has not passed.
func (m *meant) kept() []api.Entry {
	var out []api.Entry
	for _, c := range m.those(func(x heldCommand) bool { return x.Frame > m.hind() }) {
		missed := 0
		for rung := range m.frames {
			if slices.Contains(m.missedBy(rung), c) {
				missed++
			}
		}
		out = append(out, api.Entry{Command: c, Missed: missed})
	}
	return out
}

// behind is the world behind a frame, of what a rung has not missed. A number may come again when it was forgotten, so this is no Ref.
func (m *meant) behind(frame int64, rung int) api.World {
	all := m.those(func(x heldCommand) bool { return !x.missed[rung] && x.Frame <= frame })
	w, _ := world.New(m.c)
	for f := int64(1); f <= frame; f++ {
		n := 0
		for n < len(all) && all[n].Frame == f {
			n++
		}
		w, _, _ = world.Step(m.c, w, all[:n])
		all = all[n:]
	}
	return w
}

// finder is the rung that finds something on the way to the targets, and what; 0, if none does.
func (m *meant) finder(targets []int64) (int, []api.Command) {
	for rung := m.last(); rung > 0; rung-- {
		late := m.those(func(x heldCommand) bool {
			return x.Frame > m.frames[rung] && x.Frame <= targets[rung] && x.missed[rung-1] && !x.missed[rung]
		})
		if len(late) > 0 {
			return rung, late
		}
	}
	return 0, nil
}

func (m *meant) move(hind int64, on bool) (api.Moves, api.Errno) {
	if !mayGo(stand{m.c.Lags, int(m.frames[0]), m.hind()}, hind, on) {
		return api.Moves{}, 201
	}
	lead := m.frames[0]
	to := lead
	if on {
		to++
	}
	var targets []int64
	for _, lag := range m.c.Lags {
		targets = append(targets, max(0, to-int64(lag)))
	}
	targets[m.last()] = hind
	out := api.Moves{}
	out.Found, out.Late = m.finder(targets)
	out.Copied = out.Found
	for rung := range targets {
		from := m.frames[rung]
		if rung < out.Found {
			from = targets[rung+1]
		}
		out.Steps += int(targets[rung] - from)
	}
	if out.Found > 0 {
		out.Wrong, out.Right = m.behind(lead, 0), m.behind(lead, out.Found)
		for i := range m.held {
			for rung := range out.Found {
				m.held[i].missed[rung] = m.held[i].missed[out.Found]
			}
		}
	}
	m.frames = targets
	return out, 0
}

// drawnOrder is mostly one that may be, and does something.
func drawnOrder(r *rand.Rand) api.Order {
	switch r.Intn(10) {
	case 0:
		return badOrders[r.Intn(len(badOrders))]
	case 1:
		return api.Order{Verb: api.Aim, A: r.Intn(16)}
	case 2, 3:
		return api.Order{Verb: api.Fire, A: 1 + r.Intn(3)}
	case 4:
		return api.Order{Verb: api.Dash, A: r.Intn(16)}
	case 5:
		return api.Order{Verb: api.Shield, A: r.Intn(2)}
	case 6:
		return api.Order{Verb: api.Say, A: r.Intn(256)}
	}
	return api.Order{Verb: api.Steer, A: r.Intn(17) - 8, B: r.Intn(17) - 8}
}

// drawnCommand is mostly one of a frame about the copies' own.
func drawnCommand(r *rand.Rand, m *meant) api.Command {
	c := api.Command{Peer: r.Intn(m.c.Peers), Seq: 1 + r.Intn(400), Order: drawnOrder(r)}
	switch n := r.Intn(20); {
	case n == 0:
		c.Frame = []int64{m.hind() + 111, m.hind() + 112, m.hind() + 113}[r.Intn(3)]
	case n == 1:
		c.Frame = farFrames[r.Intn(len(farFrames))]
	case n < 6:
		c.Frame = m.frames[0] + 1 + r.Int63n(16)
	case n < 12:
		c.Frame = m.hind() + r.Int63n(m.frames[0]-m.hind()+2)
	default:
		c.Frame = m.frames[r.Intn(len(m.frames))] - 1 + r.Int63n(4)
	}
	if r.Intn(40) == 0 {
		c.Peer = r.Intn(m.c.Peers+2) - 1
	}
	if r.Intn(40) == 0 {
		c.Seq = []int{-1, 0, 1 << 40, 1<<40 + 1, farInts[r.Intn(len(farInts))]}[r.Intn(5)]
	}
	if r.Intn(12) == 0 && len(m.held) > 0 { // one that was there already, or is
		x := m.held[len(m.held)-1-r.Intn(min(20, len(m.held)))]
		c.Peer, c.Seq = x.Peer, x.Seq
	}
	return c
}

// drawnHind is mostly one that may be; eager says how often the hindmost copy goes as far as it may.
func drawnHind(r *rand.Rand, m *meant, eager int) int64 {
	most := min(m.frames[0]+1-int64(m.c.Lags[m.last()]), m.hind()+4)
	switch n := r.Intn(20); {
	case n == 0:
		return farFrames[r.Intn(len(farFrames))]
	case n < 3:
		return m.hind() - 2 + r.Int63n(9)
	case n < 3+eager:
		return max(most, m.hind())
	}
	return m.hind()
}

// sameMoves tells whether two answers of Move are the same.
func sameMoves(a, b api.Moves) bool {
	return a.Steps == b.Steps && a.Found == b.Found && a.Copied == b.Copied && slices.Equal(a.Late, b.Late) && clone.Same(a.Wrong, b.Wrong) && clone.Same(a.Right, b.Right)
}

// agrees holds all that a ladder tells against what is meant.
func agrees(t *testing.T, r *rand.Rand, l *ladder.Ladder, m *meant) {
	t.Helper()
	if f := l.Frames(); !slices.Equal(f, m.frames) {
		t.Fatalf("Frames: %v, meant %v", f, m.frames)
	}
	if got := l.Kept(); !slices.Equal(got, m.kept()) {
		t.Fatalf("Kept: %v, meant %v", got, m.kept())
	}
	for rung := -1; rung <= len(m.frames); rung++ {
		if got := l.Missed(rung); !slices.Equal(got, m.missedBy(rung)) {
			t.Fatalf("Missed(%d): %v, meant %v", rung, got, m.missedBy(rung))
		}
	}
	peer, frame := r.Intn(m.c.Peers), m.hind()-1+r.Int63n(20)
	n := len(m.those(func(x heldCommand) bool { return x.Frame > m.hind() && x.Frame == frame && x.Peer == peer }))
	if got := l.Count(frame, peer); got != n {
		t.Fatalf("Count(%d, %d): %d, meant %d", frame, peer, got, n)
	}
}

// agreesOnWorlds holds each copy, and a sum, against what is run anew.
func agreesOnWorlds(t *testing.T, r *rand.Rand, l *ladder.Ladder, m *meant) {
	t.Helper()
	for rung, frame := range m.frames {
		if w, e := l.World(rung); e != api.OK || !clone.Same(w, m.behind(frame, rung)) {
			t.Fatalf("World(%d): %v %d, meant %v", rung, w, e, m.behind(frame, rung))
		}
	}
	frame := m.hind() - r.Int63n(min(6, m.hind()+1))
	sum, _ := clone.Digest(m.c, m.behind(frame, m.last()))
	if got, is := l.Digest(frame); got != sum || !is {
		t.Fatalf("Digest(%d): %x %t, meant %x", frame, got, is, sum)
	}
	if got, is := l.Digest(m.hind() + 1); got != 0 || is {
		t.Fatalf("Digest(%d): %x %t", m.hind()+1, got, is)
	}
}

// drawnLags are as many as there may be, near one another or far.
func drawnLags(r *rand.Rand) []int {
	lags := []int{0}
	for n := 1 + r.Intn(4); len(lags) <= n; {
		lags = append(lags, lags[len(lags)-1]+1+r.Intn(1+r.Intn(11)))
	}
	return lags
}

// TestP20_4Meant plays at random, and holds every answer against what is meant. Each answer of Put and Move, and each finder, must have been seen often enough.
func TestP20_4Meant(t *testing.T) {
	r := rand.New(rand.NewSource(204))
	puts, moved, finders := map[api.Errno]int{}, map[api.Errno]int{}, map[int]int{}
	for range 90 {
		c := session(2+r.Intn(5), drawnLags(r)...)
		c.Seed = r.Uint64()
		l, m := made(t, c), meantOf(c)
		eager := r.Intn(12)
		for range 130 {
			if r.Intn(3) > 0 {
				x := drawnCommand(r, m)
				e, e2 := l.Put(x), m.put(x)
				if e != e2 {
					t.Fatalf("Put(%v) at %v: %d, meant %d", x, m.frames, e, e2)
				}
				puts[e2]++
				agrees(t, r, l, m)
				continue
			}
			hind, on := drawnHind(r, m, eager), r.Intn(8) > 0
			f := m.frames
			got, e := l.Move(hind, on)
			want, e2 := m.move(hind, on)
			if e != e2 || !sameMoves(got, want) {
				t.Fatalf("lags %v, Move(%d, %t) at %v: %v %d, meant %v %d", c.Lags, hind, on, f, got, e, want, e2)
			}
			moved[e2]++
			finders[want.Found]++
			agrees(t, r, l, m)
			agreesOnWorlds(t, r, l, m)
		}
	}
	t.Logf("Put %v, Move %v, found by %v", puts, moved, finders)
	for _, e := range []api.Errno{0, 1, 190, 191, 192} {
		if puts[e] < 40 {
			t.Errorf("Put answered %d only %d times", e, puts[e])
		}
	}
	for _, e := range []api.Errno{0, 201} {
		if moved[e] < 400 {
			t.Errorf("Move answered %d only %d times", e, moved[e])
		}
	}
	for rung := range 5 {
		if finders[rung] < 40 {
			t.Errorf("rung %d was the finder only %d times", rung, finders[rung])
		}
	}
}
