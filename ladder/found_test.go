package ladder_test

import (
	"slices"
	"testing"

	"echelon/api"
	"echelon/clone"
	"echelon/ladder"
)

// found is what a Move is meant to tell that has found something.
type found struct {
	rung  int
	steps int
	late  []api.Command
	wrong api.World
	right api.World
}

// finds holds the answer of a Move to each of its fields.
func finds(t *testing.T, m api.Moves, want found) {
	t.Helper()
	if m.Found != want.rung || m.Copied != want.rung || m.Steps != want.steps {
		t.Errorf("found %d, copied %d, steps %d, meant %d, %d, %d", m.Found, m.Copied, m.Steps, want.rung, want.rung, want.steps)
	}
	if !slices.Equal(m.Late, want.late) {
		t.Errorf("late %v, meant %v", m.Late, want.late)
	}
	if !clone.Same(m.Wrong, want.wrong) {
		t.Errorf("wrong %v, meant %v", m.Wrong, want.wrong)
	}
	if !clone.Same(m.Right, want.right) {
		t.Errorf("right %v, meant %v", m.Right, want.right)
	}
	if clone.Same(m.Wrong, m.Right) {
		t.Error("the two worlds are the same: this tells nothing")
	}
}

// agree holds each copy to be Ref of all commands.
func agree(t *testing.T, c api.Config, l *ladder.Ladder, held ...api.Command) {
	t.Helper()
	for rung, frame := range l.Frames() {
		isWorld(t, l, rung, ref(t, c, frame, held...))
		misses(t, l, rung)
	}
}

// TestP20_4FoundByTheHindmost: by the last of two, three, four and five rungs.
func TestP20_4FoundByTheHindmost(t *testing.T) {
	for _, x := range []struct {
		lags  []int
		lead  int
		frame int64 // that was missed by all but the hindmost one
		steps int   // of a Move to that frame, in which the leading one goes on: up to its own frame, whatever rungs are between, and what the hindmost one runs
	}{
		{[]int{0, 3}, 8, 1, 9}, {[]int{0, 3}, 8, 4, 9}, {[]int{0, 2, 5}, 8, 2, 9}, {[]int{0, 2, 5}, 8, 4, 9},
		{[]int{0, 2, 4, 6}, 12, 3, 13}, {[]int{0, 1, 2, 3, 9}, 20, 4, 21}, {[]int{0, 1, 2, 3, 4}, 5, 1, 6},
	} {
		c := session(2, x.lags...)
		l := standing(t, c, x.lead, 0)
		in, late := steer(int64(x.lead)+1, 0, 1), steer(x.frame, 1, 1)
		puts(t, l, in, late)
		keeps(t, c, l, api.Entry{Command: late, Missed: len(x.lags) - 1}, api.Entry{Command: in})
		m := goes(t, l, x.frame, true)
		finds(t, m, found{len(x.lags) - 1, x.steps, []api.Command{late}, ref(t, c, int64(x.lead)), ref(t, c, int64(x.lead), late)})
		agree(t, c, l, in, late)
		keeps(t, c, l, api.Entry{Command: in})
	}
}

// TestP20_4FoundBetween: by a rung that is neither the hindmost one nor the one behind the leading one.
func TestP20_4FoundBetween(t *testing.T) {
	c := session(2, 0, 2, 5, 9)
	l := standing(t, c, 6, 0)
	at(t, l, 6, 4, 1, 0)
	late := steer(3, 0, 1)
	puts(t, l, late)
	keeps(t, c, l, api.Entry{Command: late, Missed: 2})
	if m := goes(t, l, 0, true); !isNothing(m) || m.Steps != 3 {
		t.Errorf("a frame too early: %v", m)
	}
	misses(t, l, 1, late)
	isWorld(t, l, 0, ref(t, c, 7))
	isWorld(t, l, 1, ref(t, c, 5))
	m := goes(t, l, 0, true)
	at(t, l, 8, 6, 3, 0)
	finds(t, m, found{2, 6, []api.Command{late}, ref(t, c, 7), ref(t, c, 7, late)})
	agree(t, c, l, late)
	keeps(t, c, l, api.Entry{Command: late}) // the hindmost one has still to run it
	for range 6 {
		if m := goes(t, l, max(0, l.Frames()[0]+1-9), true); !isNothing(m) {
			t.Errorf("found again: %v", m)
		}
	}
	agree(t, c, l, late)
	keeps(t, c, l)
}

// TestP20_4FoundBehindTheLeading: by rung 1, of two and of more, so that the leading one alone is overwritten.
func TestP20_4FoundBehindTheLeading(t *testing.T) {
	for _, x := range []struct {
		lags   []int
		hind   int64 // the hindmost one's, ahead of the Move
		to     int64
		steps  int
		frames []int64
	}{
		{[]int{0, 3}, 6, 7, 4, []int64{10, 7}},
		{[]int{0, 3, 7}, 0, 0, 4, []int64{10, 7, 0}},
		{[]int{0, 3, 7}, 1, 3, 6, []int64{10, 7, 3}},
		{[]int{0, 3, 7, 11, 20}, 0, 0, 5, []int64{10, 7, 3, 0, 0}},
	} {
		c := session(2, x.lags...)
		l := standing(t, c, 9, x.hind)
		late := steer(7, 1, 1)
		puts(t, l, late)
		keeps(t, c, l, api.Entry{Command: late, Missed: 1})
		m := goes(t, l, x.to, true)
		at(t, l, x.frames...)
		finds(t, m, found{1, x.steps, []api.Command{late}, ref(t, c, 9), ref(t, c, 9, late)})
		agree(t, c, l, late)
	}
}

// TestP20_4FoundOnSeveralFrames: while the hindmost one catches up, it finds commands on the first, the last and those between; it runs to its end, and what others ahead have missed too is told in the log's order.
func TestP20_4FoundOnSeveralFrames(t *testing.T) {
	c := session(3, 0, 2, 5)
	l := standing(t, c, 20, 3)
	at(t, l, 20, 18, 3)
	late := []api.Command{steer(4, 0, 7), steer(4, 0, 9), steer(4, 2, 1), steer(5, 1, 3), steer(7, 0, 1), steer(7, 0, 2), steer(7, 2, 5)}
	behind := steer(8, 1, 1) // the hindmost one does not run it yet, but the others do
	puts(t, l, late[5], late[2], behind, late[0], late[6], late[3], late[1], late[4])
	m := goes(t, l, 7, true)
	at(t, l, 21, 19, 7)
	all := append([]api.Command{behind}, late...)
	finds(t, m, found{2, 18, late, ref(t, c, 20), ref(t, c, 20, all...)})
	agree(t, c, l, all...)
	keeps(t, c, l, api.Entry{Command: behind})
}

// TestP20_4FoundAtOneEnd: a command on the first frame of those that are caught up, and one on the last.
func TestP20_4FoundAtOneEnd(t *testing.T) {
	for frame := int64(3); frame <= 9; frame++ {
		for _, on := range []bool{false, true} {
			c := session(2, 0, 4, 9)
			l := standing(t, c, 30, 4)
			late := steer(frame, 0, 1)
			if frame <= 4 {
				refuses(t, l, late, api.ErrLogFrame)
				continue
			}
			puts(t, l, late)
			m := goes(t, l, 8, on)
			if frame == 9 {
				if !isNothing(m) {
					t.Errorf("found ahead of its frame: %v", m)
				}
				misses(t, l, 1, late)
				misses(t, l, 0, late)
				continue
			}
			steps := 26
			if on {
				steps = 27
			}
			finds(t, m, found{2, steps, []api.Command{late}, ref(t, c, 30), ref(t, c, 30, late)})
			agree(t, c, l, late)
		}
	}
}

// TestP20_4FoundByTwo: where two rungs would find something in one call, the hindmost one counts, and what the other one would have found is run, and missed no more.
func TestP20_4FoundByTwo(t *testing.T) {
	c := session(3, 0, 2, 5, 9)
	l := standing(t, c, 12, 3)
	at(t, l, 12, 10, 7, 3)
	byThree, byTwo, byOne := steer(4, 0, 1), steer(8, 1, 1), steer(11, 2, 1)
	puts(t, l, byOne, byTwo, byThree)
	keeps(t, c, l, api.Entry{Command: byThree, Missed: 3}, api.Entry{Command: byTwo, Missed: 2}, api.Entry{Command: byOne, Missed: 1})
	m := goes(t, l, 4, true)
	at(t, l, 13, 11, 8, 4)
	finds(t, m, found{3, 10, []api.Command{byThree}, ref(t, c, 12), ref(t, c, 12, byThree, byTwo, byOne)})
	agree(t, c, l, byThree, byTwo, byOne)
	keeps(t, c, l, api.Entry{Command: byTwo}, api.Entry{Command: byOne})
	for range 5 {
		if m := goes(t, l, hindOf(l)+1, true); !isNothing(m) {
			t.Errorf("found again: %v", m)
		}
	}
}

// TestP20_4FoundByTwoAhead: likewise where the hindmost one finds nothing: what it has still to find stays missed by all ahead of it.
func TestP20_4FoundByTwoAhead(t *testing.T) {
	c := session(3, 0, 2, 5, 9)
	l := standing(t, c, 12, 3)
	byThree, byTwo, byOne := steer(5, 0, 1), steer(8, 1, 1), steer(11, 2, 1)
	puts(t, l, byOne, byTwo, byThree)
	m := goes(t, l, 4, true)
	finds(t, m, found{2, 7, []api.Command{byTwo}, ref(t, c, 12), ref(t, c, 12, byTwo, byOne)})
	keeps(t, c, l, api.Entry{Command: byThree, Missed: 3}, api.Entry{Command: byTwo}, api.Entry{Command: byOne})
	isWorld(t, l, 0, ref(t, c, 13, byTwo, byOne))
	isWorld(t, l, 1, ref(t, c, 11, byTwo, byOne))
	isWorld(t, l, 2, ref(t, c, 8, byTwo))
	isWorld(t, l, 3, ref(t, c, 4))
	m = goes(t, l, 5, true)
	finds(t, m, found{3, 10, []api.Command{byThree}, ref(t, c, 13, byTwo, byOne), ref(t, c, 13, byThree, byTwo, byOne)})
	agree(t, c, l, byThree, byTwo, byOne)
}

// TestP20_4FoundOthersMissed: commands that some rungs have missed and others not, on frames that the finder runs: those alone are told that just the rungs ahead of it have missed.
func TestP20_4FoundOthersMissed(t *testing.T) {
	c := session(3, 0, 2, 5)
	l := made(t, c)
	inTime := []api.Command{steer(1, 0, 1), steer(2, 0, 2), steer(3, 0, 3)}
	puts(t, l, inTime...)
	leads(t, l, 8)
	late := []api.Command{steer(1, 1, 1), steer(3, 1, 2)}
	puts(t, l, late...)
	m := goes(t, l, 3, true)
	all := append(slices.Clone(inTime), late...)
	finds(t, m, found{2, 9, late, ref(t, c, 8, inTime...), ref(t, c, 8, all...)})
	agree(t, c, l, all...)
}

// TestP20_4FoundBesideTheHindmost: the hindmost one stands at the frame of the rung ahead of it; that one goes on alone, and finds what the leading one has missed.
func TestP20_4FoundBesideTheHindmost(t *testing.T) {
	c := session(2, 0, 1, 2)
	l := standing(t, c, 3, 2)
	at(t, l, 3, 2, 2)
	late := steer(3, 0, 1)
	puts(t, l, late)
	keeps(t, c, l, api.Entry{Command: late, Missed: 1})
	stays(t, l, 3, true)
	goes(t, l, 2, false)
	m := goes(t, l, 2, true)
	at(t, l, 4, 3, 2)
	finds(t, m, found{1, 2, []api.Command{late}, ref(t, c, 3), ref(t, c, 3, late)})
	agree(t, c, l, late)
	if m := goes(t, l, 3, true); !isNothing(m) || m.Steps != 3 {
		t.Errorf("found again: %v", m)
	}
	agree(t, c, l, late)
}

// TestP20_4FoundWithoutOn: the leading one stays at its frame, and Right is what it is now.
func TestP20_4FoundWithoutOn(t *testing.T) {
	c := session(2, 0, 2, 5)
	l := standing(t, c, 9, 1)
	late, other := steer(3, 0, 1), steer(8, 1, 1)
	puts(t, l, late, other)
	m := goes(t, l, 3, false)
	at(t, l, 9, 7, 3)
	finds(t, m, found{2, 8, []api.Command{late}, ref(t, c, 9), ref(t, c, 9, late, other)})
	isWorld(t, l, 0, m.Right)
	agree(t, c, l, late, other)
	if m := goes(t, l, 3, false); !isNothing(m) || m.Steps != 0 {
		t.Errorf("%v", m)
	}
}

// TestP20_4FoundAtOneFrame: the finder comes up to the leading one's frame, so the copy has nothing to run, or one frame alone; Right is the copy itself.
func TestP20_4FoundAtOneFrame(t *testing.T) {
	for _, lead := range []int{1, 4} {
		c := session(2, 0, 1)
		late := steer(int64(lead), 1, 1)
		for _, on := range []bool{false, true} {
			l := standing(t, c, lead, int64(lead)-1)
			puts(t, l, late)
			m := goes(t, l, int64(lead), on)
			steps, now := 1, int64(lead)
			if on {
				steps, now = 2, now+1
			}
			at(t, l, now, int64(lead))
			finds(t, m, found{1, steps, []api.Command{late}, ref(t, c, int64(lead)), ref(t, c, int64(lead), late)})
			agree(t, c, l, late)
			isWorld(t, l, 1, m.Right)
		}
	}
}

// TestP20_4FoundFromTheBeginning: rungs that stand at frame 0, because their lags are more than the leading frame, have missed nothing; the first one to go finds it.
func TestP20_4FoundFromTheBeginning(t *testing.T) {
	c := session(2, 0, 10, 20)
	l := standing(t, c, 5, 0)
	at(t, l, 5, 0, 0)
	late := steer(3, 0, 1)
	puts(t, l, late, steer(1, 1, 1))
	keeps(t, c, l, api.Entry{Command: steer(1, 1, 1), Missed: 1}, api.Entry{Command: late, Missed: 1})
	for lead := int64(6); lead <= 10; lead++ {
		if m := goes(t, l, 0, true); !isNothing(m) || m.Steps != 1 {
			t.Errorf("lead %d: %v", lead, m)
		}
	}
	m := goes(t, l, 0, true)
	at(t, l, 11, 1, 0)
	finds(t, m, found{1, 11, []api.Command{steer(1, 1, 1)}, ref(t, c, 10), ref(t, c, 10, late, steer(1, 1, 1))})
	// The copy that was overwritten has run the other one too: nothing is left to find.
	agree(t, c, l, late, steer(1, 1, 1))
	keeps(t, c, l, api.Entry{Command: steer(1, 1, 1)}, api.Entry{Command: late})
}

// TestP20_4FoundWhileCatchingUp: the hindmost one runs as many frames as it may, and a rung ahead of it finds something in the same call.
func TestP20_4FoundWhileCatchingUp(t *testing.T) {
	c := session(2, 0, 3, 6, 12)
	l := standing(t, c, 24, 5)
	at(t, l, 24, 21, 18, 5)
	early, late, far := steer(7, 0, 1), steer(19, 1, 1), steer(12, 0, 2)
	puts(t, l, late, far)
	m := goes(t, l, 9, true)
	at(t, l, 25, 22, 19, 9)
	finds(t, m, found{2, 4 + 1 + 3 + 3, []api.Command{late}, ref(t, c, 24), ref(t, c, 24, late)})
	keeps(t, c, l, api.Entry{Command: far, Missed: 3}, api.Entry{Command: late})
	refuses(t, l, early, api.ErrLogFrame)
	m = goes(t, l, 13, true)
	finds(t, m, found{3, 4 + 7 + 3 + 3, []api.Command{far}, ref(t, c, 25, late), ref(t, c, 25, late, far)})
	agree(t, c, l, late, far)
}

// TestP20_4FoundAgain: a command that comes behind a copy-up, even for the same frame, is found on its own.
func TestP20_4FoundAgain(t *testing.T) {
	c := session(2, 0, 2, 6)
	l := standing(t, c, 10, 1)
	var held []api.Command
	for i := range 3 {
		late := steer(int64(3+i), 0, i+1)
		puts(t, l, late)
		was := slices.Clone(held)
		held = append(held, late)
		m := goes(t, l, int64(3+i), true)
		lead := int64(10 + i)
		if m.Found != 2 || !slices.Equal(m.Late, []api.Command{late}) || !clone.Same(m.Wrong, ref(t, c, lead, was...)) || !clone.Same(m.Right, ref(t, c, lead, held...)) {
			t.Errorf("%d: %v", i, m)
		}
		agree(t, c, l, held...)
	}
	puts(t, l, steer(8, 1, 1))
	misses(t, l, 0, steer(8, 1, 1))
	misses(t, l, 1, steer(8, 1, 1))
	puts(t, l, steer(8, 1, 2), steer(12, 1, 3))
	goes(t, l, 6, true)
	goes(t, l, 7, true)
	m := goes(t, l, 8, true)
	if m.Found != 2 || !slices.Equal(m.Late, []api.Command{steer(8, 1, 1), steer(8, 1, 2)}) {
		t.Errorf("%v", m)
	}
	agree(t, c, l, append(held, steer(8, 1, 1), steer(8, 1, 2), steer(12, 1, 3))...)
}

// TestP20_4FoundWithoutChange: what was found is told, even if the worlds are the same with it and without it.
func TestP20_4FoundWithoutChange(t *testing.T) {
	c := session(2, 0, 2)
	l := standing(t, c, 5, 0)
	late := api.Command{Frame: 2, Peer: 0, Seq: 1, Order: api.Order{Verb: api.Halt}}
	puts(t, l, late)
	m := goes(t, l, 2, true)
	if m.Found != 1 || m.Copied != 1 || m.Steps != 6 || !slices.Equal(m.Late, []api.Command{late}) || !clone.Same(m.Wrong, m.Right) || !clone.Same(m.Right, ref(t, c, 5)) {
		t.Errorf("%v", m)
	}
	misses(t, l, 0)
}

// TestP20_4Full: as many commands as a log takes on a frame, all late, are found together.
func TestP20_4Full(t *testing.T) {
	c := session(6, 0, 1, 2, 3, 4)
	l := standing(t, c, 10, 2)
	var late []api.Command
	for frame := int64(3); frame <= 6; frame++ {
		for peer := range 6 {
			for i := range 3 {
				late = append(late, steer(frame, peer, int(frame)*3+i))
			}
		}
	}
	for i := range late {
		puts(t, l, late[i*31%len(late)]) // 31 and 72 share no divisor
	}
	m := goes(t, l, 6, true)
	finds(t, m, found{4, 9, late, ref(t, c, 10), ref(t, c, 10, late...)})
	agree(t, c, l, late...)
	keeps(t, c, l)
}
