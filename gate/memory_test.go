package gate_test

import (
	"slices"
	"testing"

	"echelon/api"
)

// spoil writes over frames and over the room behind their end.
func spoil(l []int64) {
	l = l[:cap(l)]
	for i := range l {
		l[i] = -77
	}
}

// TestP21_3AnswersAreNewMemory: who writes into an answer, or behind it, changes nothing of the gate, nor of another answer.
func TestP21_3AnswersAreNewMemory(t *testing.T) {
	for peers := 2; peers <= 6; peers++ {
		for self := range peers {
			g := made(t, peers, self)
			want := make([]int64, peers)
			for round := range int64(3) {
				one, other := g.Marks(), g.Marks()
				spoil(one)
				if !slices.Equal(other, want) {
					t.Fatalf("two answers share memory: %v, meant %v", other, want)
				}
				has(t, g, 4*round, want...)
				told := g.Marks()
				before := slices.Clone(want)
				for peer := range peers {
					if peer != self {
						want[peer] = 4*round + 4
						marks(t, g, peer, want[peer])
					}
				}
				if !slices.Equal(told, before) {
					t.Fatalf("what Marks has told has changed: %v, was %v", told, before)
				}
				spoil(told)
				has(t, g, 4*round+4, want...)
			}
		}
	}
}

// TestP21_3AskingChangesNothing: Marks, Least and Plan may be asked as often as one likes.
func TestP21_3AskingChangesNothing(t *testing.T) {
	for self := range 4 {
		frames := []int64{9, 5, 8, 6}
		g := with(t, self, frames...)
		frames[self] = 0
		want := leastBut([]int64{9, 5, 8, 6}, self)
		for range 5 {
			has(t, g, want, frames...)
			plans(t, g, 30, 3, 2, min(want, 7), false)
			refusesPlan(t, g, 3, 30, 2)
		}
	}
}

// TestP21_1TwoGates: they know nothing of one another.
func TestP21_1TwoGates(t *testing.T) {
	a, b := made(t, 2, 0), made(t, 4, 3)
	marks(t, a, 1, 50)
	has(t, b, 0, 0, 0, 0, 0)
	marks(t, b, 0, 7)
	marks(t, b, 1, 6)
	marks(t, b, 2, 5)
	has(t, a, 50, 0, 50)
	has(t, b, 5, 7, 6, 5, 0)
	refuses(t, a, 2, 60)
	refuses(t, b, 3, 60)
	plans(t, a, 52, 4, 1, 8, false)
	plans(t, b, 52, 4, 1, 5, false)
	plans(t, b, 53, 5, 1, 5, true)
	// Two of the same kind, called by turns.
	c, d := made(t, 3, 1), made(t, 3, 1)
	for frame := range int64(20) {
		marks(t, c, 0, frame)
		marks(t, d, 2, 2*frame)
		marks(t, c, 2, frame+1)
		has(t, c, frame, frame, 0, frame+1)
		has(t, d, 0, 0, 0, 2*frame)
	}
	if e := c.Mark(1, 1); e != api.ErrGateMark {
		t.Errorf("Mark of self: %d", e)
	}
	has(t, d, 0, 0, 0, 38)
}
