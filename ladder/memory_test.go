package ladder_test

import (
	"runtime"
	"slices"
	"testing"

	"echelon/api"
	"echelon/clone"
	"echelon/ladder"
)

// spoil writes over a list, and over the room behind its end.
func spoil[T any](l []T, with T) {
	l = l[:cap(l)]
	for i := range l {
		l[i] = with
	}
}

var badCommand = api.Command{Frame: -1, Peer: -2, Seq: -3, Order: api.Order{Verb: -4}}

func spoilWorld(w api.World) {
	spoil(w.Movers, api.Mover{Health: -1, Said: 77})
	spoil(w.Scores, api.Score{Points: -1, Outs: 77})
	spoil(w.Shots, api.Shot{No: -1})
	spoil(w.Pickups, api.Pickup{No: -1})
}

// spoilAll asks a ladder for all that it tells, and writes over it.
func spoilAll(l *ladder.Ladder) {
	for rung := range l.Frames() {
		w, _ := l.World(rung)
		spoilWorld(w)
		spoil(l.Missed(rung), badCommand)
	}
	spoil(l.Kept(), api.Entry{Command: badCommand, Missed: 77})
	spoil(l.Frames(), -5)
}

// busy is a ladder with shots and pickups, of which some are missed, and its commands.
func busy(t *testing.T, c api.Config) (*ladder.Ladder, []api.Command) {
	t.Helper()
	l := made(t, c)
	var held []api.Command
	give := func(frame int64, peer int, o api.Order) {
		x := api.Command{Frame: frame, Peer: peer, Seq: len(held) + 1, Order: o}
		puts(t, l, x)
		held = append(held, x)
	}
	for frame := int64(1); frame <= 40; frame += 9 {
		give(frame, 0, api.Order{Verb: api.Fire, A: 1})
		give(frame+2, 1, api.Order{Verb: api.Fire, A: 2})
		give(frame+3, 1, api.Order{Verb: api.Steer, A: -4, B: 2})
	}
	leads(t, l, 36)
	follows(t, l, 14)
	give(16, 0, api.Order{Verb: api.Steer, A: 5, B: 5})
	give(17, 1, api.Order{Verb: api.Say, A: 200})
	give(35, 0, api.Order{Verb: api.Halt})
	return l, held
}

// TestP20_5AnswersAreNewMemory: who writes into an answer changes nothing of the ladder, nor of another answer.
func TestP20_5AnswersAreNewMemory(t *testing.T) {
	c := session(2, 0, 2, 5)
	l, held := busy(t, c)
	was := state(l)
	w, _ := l.World(0)
	if len(w.Shots) == 0 || len(w.Pickups) == 0 || len(l.Missed(1)) == 0 {
		t.Fatalf("the world has too little: %v", w)
	}
	told, kept, missed, frames := clone.Copy(w), l.Kept(), l.Missed(0), l.Frames()
	keptWas, missedWas, framesWas := slices.Clone(kept), slices.Clone(missed), slices.Clone(frames)
	spoilAll(l)
	if state(l) != was {
		t.Error("what is written into answers is seen in the ladder")
	}
	goes(t, l, 17, true)
	spoilAll(l)
	if !clone.Same(w, told) || !slices.Equal(kept, keptWas) || !slices.Equal(missed, missedWas) || !slices.Equal(frames, framesWas) {
		t.Error("what was told has changed")
	}
	for range 8 {
		spoilAll(l)
		goes(t, l, hindOf(l)+1, true)
	}
	followsAll(t, c, l, held)
}

// TestP20_4AnswersAreNewMemory: likewise of what a Move tells: its lists share nothing with one another, with the copies, with what is told later.
func TestP20_4AnswersAreNewMemory(t *testing.T) {
	for _, x := range []struct {
		lags []int
		on   bool
	}{{[]int{0, 2, 5}, true}, {[]int{0, 2, 5}, false}, {[]int{0, 20}, true}, {[]int{0, 1}, false}} {
		c := session(2, x.lags...)
		l, held := busy(t, c)
		twin, _ := busy(t, c)
		m, same := goes(t, l, 17, x.on), goes(t, twin, 17, x.on)
		if m.Found != len(x.lags)-1 || len(m.Late) != 2 || len(m.Wrong.Shots) == 0 || len(m.Right.Pickups) == 0 {
			t.Fatalf("%v: %v", x, m)
		}
		was := state(l)
		spoilWorld(m.Wrong)
		if !clone.Same(m.Right, same.Right) || !slices.Equal(m.Late, same.Late) {
			t.Errorf("%v: Wrong shares memory with the rest of its answer", x)
		}
		spoil(m.Late, badCommand)
		if !clone.Same(m.Right, same.Right) {
			t.Errorf("%v: Late and Right share memory", x)
		}
		spoilWorld(m.Right)
		if state(l) != was {
			t.Errorf("%v: what is written into a Move's answer is seen in the ladder", x)
		}
		wrong, right := clone.Copy(same.Wrong), clone.Copy(same.Right)
		for range 3 {
			spoilAll(l)
			spoilAll(twin)
			goes(t, l, hindOf(l)+1, true)
			goes(t, twin, hindOf(twin)+1, true)
		}
		if !clone.Same(same.Wrong, wrong) || !clone.Same(same.Right, right) {
			t.Errorf("%v: what a Move has told has changed", x)
		}
		followsAll(t, c, l, held)
	}
}

// TestP20_4FoundWhereNothingIsRun: the leading copy becomes one of the rung behind it, and runs nothing: the two and the answer are apart.
func TestP20_4FoundWhereNothingIsRun(t *testing.T) {
	c := session(2, 0, 1)
	for _, on := range []bool{false, true} {
		l := standing(t, c, 20, 19)
		puts(t, l, steer(20, 0, 1))
		m := goes(t, l, 20, on)
		want := clone.Copy(m.Right)
		spoilWorld(m.Wrong)
		spoilWorld(m.Right)
		isWorld(t, l, 1, want)
		isWorld(t, l, 0, ref(t, c, l.Frames()[0], steer(20, 0, 1)))
	}
}

// TestP20_1HandedIn: who writes into a session that was handed in changes nothing of the ladder, and the ladder changes nothing of it.
func TestP20_1HandedIn(t *testing.T) {
	room := []int{0, 2, 5, 40, 41, 42}
	c := session(2, room[:3]...)
	l, alone := made(t, c), made(t, session(2, 0, 2, 5))
	for i := range 20 {
		for _, x := range []*ladder.Ladder{l, alone} {
			puts(t, x, steer(int64(i+1), 0, i+1))
			goes(t, x, max(0, int64(i)-5), true)
		}
		if i == 9 && !slices.Equal(room, []int{0, 2, 5, 40, 41, 42}) {
			t.Errorf("the session was changed: %v", room)
		}
		if i >= 9 {
			spoil(room, 30-i)
			c.Peers, c.Seed, c.Arena = 6, 99, api.Arena{}
		}
		if state(l) != state(alone) {
			t.Fatalf("%d: what is written into the session is seen in the ladder: %v, %v", i, l.Frames(), alone.Frames())
		}
	}
	stays(t, l, hindOf(l)+3, true)
	goes(t, l, hindOf(l)+2, true)
}

// TestP20_1OneSession: two ladders of one session share nothing of it.
func TestP20_1OneSession(t *testing.T) {
	c := session(2, 0, 2, 5)
	a, b := made(t, c), made(t, c)
	was := state(b)
	puts(t, a, steer(1, 0, 1), steer(2, 1, 1))
	leads(t, a, 9)
	puts(t, a, steer(1, 1, 2))
	goes(t, a, 3, true)
	if state(b) != was {
		t.Error("one ladder's calls are seen in another one")
	}
	puts(t, b, steer(1, 0, 1))
	leads(t, b, 3)
	isWorld(t, b, 0, ref(t, c, 3, steer(1, 0, 1)))
}

// TestP20_6LongGame: beside the sums, a long game needs no more room than a short one.
func TestP20_6LongGame(t *testing.T) {
	c := session(6, 0, 2, 5, 9, 14)
	l := made(t, c)
	seq := 0
	play := func(frames int) {
		for range frames {
			f := l.Frames()
			for peer := range 6 {
				if frame := f[0] - int64(peer); frame > f[4] {
					seq++
					puts(t, l, say(frame, peer, seq, seq%256))
				}
			}
			goes(t, l, max(0, f[0]-13), true)
		}
	}
	room := func() uint64 {
		var m runtime.MemStats
		runtime.GC()
		runtime.ReadMemStats(&m)
		return m.HeapAlloc
	}
	play(200)
	first := room()
	play(1500)
	if last := room(); last > first+1<<18 {
		t.Errorf("%d bytes at first, %d at last", first, last)
	}
	if len(l.Kept()) > 6*16 {
		t.Errorf("%d are kept", len(l.Kept()))
	}
	at(t, l, 1700, 1698, 1695, 1691, 1686)
	for _, frame := range []int64{0, 1, 850, 1686} {
		if _, is := l.Digest(frame); !is {
			t.Errorf("no sum of frame %d", frame)
		}
	}
}
