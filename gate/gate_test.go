package gate_test

import (
	"math"
	"slices"
	"testing"

	"echelon/api"
	"echelon/gate"
)

// ints are numbers at which a reading may go wrong: far below 0, at half a word, at the bounds of their type.
var ints = []int{math.MinInt, math.MinInt + 1, -1 << 32, -1<<32 + 1, -2, -1, 1<<31 - 1, 1 << 31, 1 << 32, 1<<32 + 1, math.MaxInt - 1, math.MaxInt}

// wrongFrames are no frames of a mark.
var wrongFrames = []int64{math.MinInt64, math.MinInt64 + 1, -1 << 40, -1 << 32, -2, -1, 1<<40 + 1, 1<<40 + 2, 1 << 41, 1 << 62, math.MaxInt64 - 1, math.MaxInt64}

func made(t *testing.T, peers, self int) *gate.Gate {
	t.Helper()
	g, e := gate.New(peers, self)
	if g == nil || e != api.OK {
		t.Fatalf("New(%d, %d): %v %d", peers, self, g, e)
	}
	return g
}

// marks takes in one mark.
func marks(t *testing.T, g *gate.Gate, peer int, frame int64) {
	t.Helper()
	if e := g.Mark(peer, frame); e != api.OK {
		t.Fatalf("Mark(%d, %d): %d", peer, frame, e)
	}
}

// with is a gate that has these marks, by seats; that of self is passed over.
func with(t *testing.T, self int, frames ...int64) *gate.Gate {
	t.Helper()
	g := made(t, len(frames), self)
	for peer, frame := range frames {
		if peer != self {
			marks(t, g, peer, frame)
		}
	}
	return g
}

// has holds a gate to have just these marks, and this least one.
func has(t *testing.T, g *gate.Gate, least int64, frames ...int64) {
	t.Helper()
	if got := g.Marks(); !slices.Equal(got, frames) {
		t.Errorf("Marks: %v, meant %v", got, frames)
	}
	if got := g.Least(); got != least {
		t.Errorf("Least of %v: %d, meant %d", frames, got, least)
	}
}

// refuses holds a gate to refuse a mark, and to be unchanged when it has said so.
func refuses(t *testing.T, g *gate.Gate, peer int, frame int64) {
	t.Helper()
	all, least := g.Marks(), g.Least()
	if e := g.Mark(peer, frame); e != api.ErrGateMark {
		t.Errorf("Mark(%d, %d): %d, meant %d", peer, frame, e, api.ErrGateMark)
	}
	has(t, g, least, all...)
}

func TestP21_3Examples(t *testing.T) {
	g := made(t, 3, 1)
	has(t, g, 0, 0, 0, 0)
	marks(t, g, 0, 7)
	has(t, g, 0, 7, 0, 0)
	marks(t, g, 2, 5)
	has(t, g, 5, 7, 0, 5)
	marks(t, g, 2, 4)
	has(t, g, 5, 7, 0, 5)
	refuses(t, g, 1, 9)
	refuses(t, g, 3, 1)
	refuses(t, g, 0, -1)
	plans(t, g, 10, 0, 4, 4, false)
	plans(t, g, 10, 4, 4, 5, false)
	plans(t, g, 50, 5, 4, 5, false)
	plans(t, g, 53, 5, 4, 5, true)
	refusesPlan(t, g, 54, 5, 4)
}

func TestP21_1New(t *testing.T) {
	numbers := append([]int{0, 1, 2, 3, 4, 5, 6, 7, 8}, ints...)
	for _, peers := range numbers {
		for _, self := range append([]int{peers, peers - 1, peers + 1}, numbers...) {
			g, e := gate.New(peers, self)
			if peers < 2 || peers > 6 || self < 0 || self >= peers {
				if g != nil || e != api.ErrArg {
					t.Errorf("New(%d, %d): %v %d", peers, self, g, e)
				}
				continue
			}
			if g == nil || e != api.OK {
				t.Fatalf("New(%d, %d): %v %d", peers, self, g, e)
			}
			has(t, g, 0, make([]int64, peers)...)
		}
	}
}

// TestP21_1PeersAndSelf: the two numbers say of which seats marks are taken.
func TestP21_1PeersAndSelf(t *testing.T) {
	for peers := 2; peers <= 6; peers++ {
		for self := range peers {
			g := made(t, peers, self)
			want := make([]int64, peers)
			for peer := -2; peer < 9; peer++ {
				if peer < 0 || peer >= peers || peer == self {
					refuses(t, g, peer, 3)
					continue
				}
				want[peer] = int64(peer) + 10
				marks(t, g, peer, want[peer])
				if got := g.Marks(); !slices.Equal(got, want) {
					t.Fatalf("of %d peers, for %d: %v, meant %v", peers, self, got, want)
				}
			}
		}
	}
}

func TestP21_2Seats(t *testing.T) {
	for self := range 4 {
		frames := []int64{20, 30, 40, 50}
		g := with(t, self, frames...)
		frames[self] = 0
		for _, peer := range append([]int{self, 4, 5, 6}, ints...) {
			for _, frame := range []int64{0, 1, 20, 51, 1 << 40} {
				refuses(t, g, peer, frame)
			}
		}
		if got := g.Marks(); !slices.Equal(got, frames) {
			t.Errorf("for %d: %v, meant %v", self, got, frames)
		}
		for _, peer := range []int{0, 3} { // the first seat, the last one
			if peer != self {
				frames[peer] += 100
				marks(t, g, peer, frames[peer])
			}
		}
		if got := g.Marks(); !slices.Equal(got, frames) {
			t.Errorf("for %d: %v, meant %v", self, got, frames)
		}
	}
}

func TestP21_2Frames(t *testing.T) {
	for _, there := range []int64{0, 1, 2, 100, 1<<31 - 1, 1 << 31, 1 << 32, 1<<40 - 1, 1 << 40} {
		for _, frame := range wrongFrames {
			refuses(t, with(t, 1, there, 0), 0, frame)
		}
		for _, frame := range []int64{0, 1, there - 1, there, there + 1, 1<<32 - 1, 1<<32 + 1, 1<<40 - 1, 1 << 40} {
			if frame < 0 || frame > 1<<40 {
				continue
			}
			g := with(t, 1, there, 0)
			marks(t, g, 0, frame)
			want := there
			if frame > there {
				want = frame
			}
			has(t, g, want, want, 0)
		}
	}
}

// TestP21_2OneUpOneDown: each mark goes up by itself, and what comes late takes nothing back.
func TestP21_2OneUpOneDown(t *testing.T) {
	g := made(t, 3, 0)
	marks(t, g, 1, 0)
	has(t, g, 0, 0, 0, 0)
	marks(t, g, 1, 5)
	has(t, g, 0, 0, 5, 0)
	marks(t, g, 1, 5)
	has(t, g, 0, 0, 5, 0)
	marks(t, g, 2, 8)
	has(t, g, 5, 0, 5, 8)
	marks(t, g, 1, 4)
	marks(t, g, 1, 0)
	has(t, g, 5, 0, 5, 8)
	marks(t, g, 1, 6)
	has(t, g, 6, 0, 6, 8)
	marks(t, g, 2, 7)
	has(t, g, 6, 0, 6, 8)
	marks(t, g, 1, 1<<40)
	has(t, g, 8, 0, 1<<40, 8)
	marks(t, g, 2, 1<<40)
	marks(t, g, 1, 1<<40-1)
	has(t, g, 1<<40, 0, 1<<40, 1<<40)
}

// TestP21_2SeveralWrong: a wrong seat and a wrong frame at once.
func TestP21_2SeveralWrong(t *testing.T) {
	g := with(t, 2, 3, 4, 0, 6)
	for _, peer := range append([]int{2, 4}, ints...) {
		for _, frame := range wrongFrames {
			refuses(t, g, peer, frame)
		}
	}
	has(t, g, 3, 3, 4, 0, 6)
}

func TestP21_3LeastOfTwo(t *testing.T) {
	for _, frame := range []int64{0, 1, 9, 1 << 33, 1 << 40} {
		has(t, with(t, 0, 0, frame), frame, 0, frame)
		has(t, with(t, 1, frame, 0), frame, frame, 0)
	}
}

// TestP21_3LeastOfMore: of each number of peers, with each seat as self, and with the least mark at each other one. Self's 0 is below them all, and doesn't count.
func TestP21_3LeastOfMore(t *testing.T) {
	for peers := 3; peers <= 6; peers++ {
		for self := range peers {
			for low := range peers {
				frames := make([]int64, peers)
				for peer := range frames {
					frames[peer] = int64(20 + 7*peer%5)
				}
				frames[low] = 11
				want := int64(11)
				if low == self { // where self would be the least one
					want = leastBut(frames, self)
				}
				g := with(t, self, frames...)
				frames[self] = 0
				has(t, g, want, frames...)
			}
		}
	}
}

// leastBut is the least of all frames but one.
func leastBut(frames []int64, self int) int64 {
	rest := slices.Clone(frames[:self])
	rest = append(rest, frames[self+1:]...)
	slices.Sort(rest)
	return rest[0]
}

// TestP21_3AllOthersAhead: the greatest marks that may be do not make self's 0 count, and one that has none does.
func TestP21_3AllOthersAhead(t *testing.T) {
	for peers := 2; peers <= 6; peers++ {
		for self := range peers {
			g := made(t, peers, self)
			want := make([]int64, peers)
			missing := peers - 1
			for peer := range peers {
				if peer == self {
					continue
				}
				if got := g.Least(); got != 0 {
					t.Errorf("%d of %d have no mark: Least %d", missing, peers, got)
				}
				marks(t, g, peer, 1<<40)
				want[peer] = 1 << 40
				missing--
			}
			has(t, g, 1<<40, want...)
		}
	}
}
