package link_test

import (
	"runtime"
	"slices"
	"testing"

	"echelon/api"
)

// spoil writes over commands and over the room behind their end.
func spoil(l []api.Command) {
	l = l[:cap(l)]
	for i := range l {
		l[i] = api.Command{Frame: -1, Peer: -2, Seq: -3, Order: api.Order{Verb: -4, A: 5, B: 6, C: 7}}
	}
}

// TestP18_3TurnIsNewMemory: who writes into the commands of a Turn, or behind them, changes nothing of the link, nor of another Turn.
func TestP18_3TurnIsNewMemory(t *testing.T) {
	for own := range 40 {
		for acked := range own + 1 {
			l := made(t, 7, 0, 1)
			frames := slices.Repeat([]int64{9}, own+3)
			lays(t, l, 0, 0, frames[:own]...)
			takes(t, "an Ack", l, ackOf(acked), 0, nil, acked > 0)
			first, second := l.Turn(1), l.Turn(1)
			spoil(first.Commands)
			first.Commands = append(first.Commands, command(1, 2, 3))
			want := commands(0, acked+1, frames[acked:own]...)
			if !slices.Equal(second.Commands, want) || !slices.Equal(l.Turn(1).Commands, want) {
				t.Fatalf("%d of %d acknowledged: what one Turn was written over with is seen elsewhere", acked, own)
			}
			lays(t, l, 0, own, 9)
			if third := l.Turn(1); !slices.Equal(third.Commands, commands(0, acked+1, frames[acked:own+1]...)) {
				t.Fatalf("%d of %d acknowledged: %v", acked, own, third.Commands)
			}
			spoil(second.Commands)
			lays(t, l, 0, own+1, 9)
			if fourth := l.Turn(1); !slices.Equal(fourth.Commands, commands(0, acked+1, frames[acked:own+2]...)) {
				t.Fatalf("%d of %d acknowledged: %v", acked, own, fourth.Commands)
			}
			if !slices.Equal(first.Commands[len(first.Commands)-1:], []api.Command{command(1, 2, 3)}) {
				t.Fatalf("the link writes behind the commands of a Turn")
			}
		}
	}
}

// TestP18_3TurnStays: a Turn is as it was when it was made, whatever its link does then.
func TestP18_3TurnStays(t *testing.T) {
	l := made(t, 7, 0, 1)
	lays(t, l, 0, 0, 1, 2, 3)
	d := l.Turn(1)
	lays(t, l, 0, 3, 4)
	takes(t, "two", l, ackOf(2), 0, nil, true)
	lays(t, l, 0, 4, 5, 6, 7, 8)
	takes(t, "all", l, ackOf(8), 0, nil, true)
	lays(t, l, 0, 8, 9, 9, 9)
	if !slices.Equal(d.Commands, commands(0, 1, 1, 2, 3)) {
		t.Errorf("the Turn of then: %v", d.Commands)
	}
}

// TestP18_5AnswerIsNewMemory: the answer shares nothing with what was handed in, nor with another answer; the link keeps nothing of both, and writes into neither.
func TestP18_5AnswerIsNewMemory(t *testing.T) {
	for came := range 5 {
		for end := came; end < 9; end++ {
			all := []int64{1, 2, 3, 4, 5, 6, 7, 8, 9, 10}
			l, other := made(t, 7, 0, 1), made(t, 7, 0, 1)
			takes(t, "some", l, turn(0, 1, 0, all[:came]...), 0, commands(1, 1, all[:came]...), came > 0)
			d := turn(0, 1, 0, all...)
			room := d.Commands
			d.Commands = room[:end]
			fresh, _, e := l.Take(d, 0)
			same, _, e2 := other.Take(d, 0)
			if e != api.OK || e2 != api.OK || !slices.Equal(room, commands(1, 1, all...)) {
				t.Fatalf("Take(%v): %d %d; there now: %v", d, e, e2, room)
			}
			spoil(fresh)
			if !slices.Equal(room, commands(1, 1, all...)) || !slices.Equal(same, commands(1, 1, all[:end]...)) {
				t.Fatalf("what an answer was written over with is seen elsewhere: %v, %v", room, same)
			}
			spoil(room)
			if !slices.Equal(same, commands(1, 1, all[:end]...)) {
				t.Fatalf("what was handed in is seen in an answer: %v", same)
			}
			takes(t, "the others", l, turn(0, 1, 0, all...), 0, commands(1, end+1, all[end:]...), true)
		}
	}
}

// TestP18_5OneListForMany: a receiver that reads each datagram over the last one.
func TestP18_5OneListForMany(t *testing.T) {
	l := made(t, 7, 0, 1)
	room := make([]api.Command, 0, 8)
	for i := range 30 {
		d := turn(int64(i), i+1, 0)
		d.Commands = append(room, commands(1, i+1, int64(i+1))...)
		takes(t, "one more", l, d, 0, commands(1, i+1, int64(i+1)), true)
		spoil(room)
	}
	stands(t, l, api.LinkState{Next: 31, Mark: 29, Met: true})
}

// TestP18_5LongGame: what is acknowledged, and counts up to the mark, are not kept; so the last Turn of a long game asks for no more room than the first ones.
func TestP18_5LongGame(t *testing.T) {
	a, b := made(t, 7, 1, 0), made(t, 7, 0, 1)
	play := func(turns int) uint64 {
		var ahead, behind runtime.MemStats
		runtime.ReadMemStats(&ahead)
		for range turns {
			mark := b.State().Mark + 1
			lays(t, a, 1, a.State().Own, mark, mark+1, mark+16)
			takes(t, "a Turn", b, a.Turn(mark), mark, commands(1, b.State().Next, mark, mark+1, mark+16), true)
			takes(t, "an Ack", a, b.Ack(), mark, nil, true)
		}
		runtime.ReadMemStats(&behind)
		return behind.TotalAlloc - ahead.TotalAlloc
	}
	first := play(500)
	play(9000)
	if last := play(500); last > 2*first {
		t.Errorf("500 Turns asked for %d bytes at first, at last for %d", first, last)
	}
	stands(t, b, api.LinkState{Next: 30001, Mark: 10000, Met: true})
	stands(t, a, api.LinkState{Own: 30000, Acked: 30000, Next: 1, Met: true})
}
