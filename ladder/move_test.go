package ladder_test

import (
	"slices"
	"testing"

	"echelon/api"
)

// stand is where a ladder of some lags is.
type stand struct {
	lags []int
	lead int
	hind int64
}

// stands are some of each kind: at the beginning, with the hindmost copy as far behind as it may be, as near as it may be, and between.
var stands = []stand{
	{[]int{0, 1}, 0, 0}, {[]int{0, 1}, 1, 0}, {[]int{0, 1}, 1, 1}, {[]int{0, 1}, 6, 3}, {[]int{0, 1}, 48, 0}, {[]int{0, 1}, 47, 0}, {[]int{0, 1}, 48, 1}, {[]int{0, 1}, 48, 48}, {[]int{0, 1}, 48, 44}, {[]int{0, 1}, 48, 45},
	{[]int{0, 2}, 5, 0}, {[]int{0, 2}, 5, 1}, {[]int{0, 2}, 5, 4},
	{[]int{0, 47}, 0, 0}, {[]int{0, 47}, 45, 0}, {[]int{0, 47}, 46, 0}, {[]int{0, 47}, 47, 0}, {[]int{0, 47}, 48, 0}, {[]int{0, 47}, 47, 1}, {[]int{0, 47}, 48, 1}, {[]int{0, 47}, 48, 2},
	{[]int{0, 2, 5}, 3, 0}, {[]int{0, 2, 5}, 4, 0}, {[]int{0, 2, 5}, 7, 0}, {[]int{0, 2, 5}, 8, 0}, {[]int{0, 2, 5}, 9, 0}, {[]int{0, 2, 5}, 12, 3}, {[]int{0, 2, 5}, 12, 7}, {[]int{0, 2, 5}, 12, 8},
	{[]int{0, 1, 2, 3, 4}, 2, 0}, {[]int{0, 1, 2, 3, 4}, 20, 17}, {[]int{0, 1, 2, 3, 4}, 20, 10}, {[]int{0, 44, 45, 46, 47}, 48, 0}, {[]int{0, 44, 45, 46, 47}, 47, 1},
}

// mayGo is what P20.4 says of a hindmost frame, word by word. (A frame so far down that its difference is none is below the hindmost one's.)
func mayGo(s stand, hind int64, on bool) bool {
	lead, lag := int64(s.lead), int64(s.lags[len(s.lags)-1])
	below := hind < s.hind
	tooFar := hind > s.hind+4
	tooNear := hind > s.hind && hind > lead+1-lag
	stall := on && lead-hind >= 48
	return !below && !tooFar && !tooNear && !stall
}

// TestP20_4Gate: which frames the hindmost copy may go to, from each stand, and where all copies are then.
func TestP20_4Gate(t *testing.T) {
	seen := map[bool]int{}
	for _, s := range stands {
		c := session(2, s.lags...)
		l := standing(t, c, s.lead, s.hind)
		for hind := s.hind - 2; hind <= s.hind+7; hind++ {
			for _, on := range []bool{false, true} {
				seen[mayGo(s, hind, on)]++
				if !mayGo(s, hind, on) {
					stays(t, l, hind, on)
					continue
				}
				other := standing(t, c, s.lead, s.hind)
				was := other.Frames()
				m := goes(t, other, hind, on)
				lead := int64(s.lead)
				if on {
					lead++
				}
				want := []int64{}
				for _, lag := range s.lags {
					want = append(want, max(0, lead-int64(lag)))
				}
				want[len(want)-1] = hind
				at(t, other, want...)
				steps := int64(0)
				for rung := range want {
					steps += want[rung] - was[rung]
				}
				if !isNothing(m) || int64(m.Steps) != steps {
					t.Errorf("%v, Move(%d, %t): %v, meant %d steps", s, hind, on, m, steps)
				}
			}
		}
		at(t, l, standing(t, c, s.lead, s.hind).Frames()...)
	}
	if seen[true] < 100 || seen[false] < 300 {
		t.Errorf("taken and refused: %v", seen)
	}
}

// TestP20_4GateWorkedOut holds the edges against frames written down.
func TestP20_4GateWorkedOut(t *testing.T) {
	for _, x := range []struct {
		s    stand
		hind int64
		on   bool
		want api.Errno
	}{
		{stand{[]int{0, 2, 5}, 12, 3}, 2, true, api.ErrLadderGate},  // one below f(K - 1)
		{stand{[]int{0, 2, 5}, 12, 3}, 3, true, api.OK},             // just at it
		{stand{[]int{0, 2, 5}, 12, 3}, 7, true, api.OK},             // CatchUp above it
		{stand{[]int{0, 2, 5}, 12, 3}, 8, true, api.ErrLadderGate},  // one more; lead + 1 - Lag is 8
		{stand{[]int{0, 2, 5}, 12, 5}, 8, true, api.OK},             // lead + 1 - Lag
		{stand{[]int{0, 2, 5}, 12, 5}, 8, false, api.OK},            // it is asked of what lead is ahead of the call
		{stand{[]int{0, 2, 5}, 12, 5}, 9, true, api.ErrLadderGate},  // one more; f(K - 1) + CatchUp is 9
		{stand{[]int{0, 2, 5}, 12, 5}, 9, false, api.ErrLadderGate}, //
		{stand{[]int{0, 2, 5}, 3, 0}, 0, true, api.OK},              // lead + 1 - Lag is below 0, but it stays
		{stand{[]int{0, 2, 5}, 3, 0}, 0, false, api.OK},             //
		{stand{[]int{0, 2, 5}, 4, 0}, 1, true, api.ErrLadderGate},   // lead + 1 - Lag is 0
		{stand{[]int{0, 2, 5}, 5, 0}, 1, true, api.OK},              // it is 1
		{stand{[]int{0, 5}, 47, 0}, 0, true, api.OK},                // lead less hind is MaxSpan - 1
		{stand{[]int{0, 5}, 48, 0}, 0, true, api.ErrLadderGate},     // it is MaxSpan
		{stand{[]int{0, 5}, 48, 0}, 0, false, api.OK},               //
		{stand{[]int{0, 5}, 48, 0}, 1, true, api.OK},                // MaxSpan - 1, for hind is what it goes to
		{stand{[]int{0, 5}, 48, 0}, 4, true, api.OK},
		{stand{[]int{0, 47}, 48, 0}, 2, true, api.OK},
		{stand{[]int{0, 47}, 48, 0}, 3, true, api.ErrLadderGate},
		{stand{[]int{0, 47}, 48, 2}, 3, true, api.ErrLadderGate},
		{stand{[]int{0, 47}, 48, 2}, 2, true, api.OK},
	} {
		l := standing(t, session(2, x.s.lags...), x.s.lead, x.s.hind)
		if m, e := l.Move(x.hind, x.on); e != x.want || !isNothing(m) {
			t.Errorf("%v, Move(%d, %t): %v %d, meant %d", x.s, x.hind, x.on, m, e, x.want)
		}
	}
}

// TestP20_4FarFrames: frames at the ends of their type are far from any that may be.
func TestP20_4FarFrames(t *testing.T) {
	for _, s := range stands {
		l := standing(t, session(2, s.lags...), s.lead, s.hind)
		for _, hind := range farFrames {
			stays(t, l, hind, true)
			stays(t, l, hind, false)
		}
	}
}

// TestP20_4Refused: a refused Move leaves what is kept and missed, and what it would have found is found later.
func TestP20_4Refused(t *testing.T) {
	c := session(2, 0, 2, 5)
	l := standing(t, c, 9, 1)
	late := steer(3, 0, 1)
	puts(t, l, late, say(10, 1, 1, 4))
	for _, hind := range []int64{-1, 0, 6, 7} {
		stays(t, l, hind, true)
		stays(t, l, hind, false)
	}
	keeps(t, c, l, api.Entry{Command: late, Missed: 2}, api.Entry{Command: say(10, 1, 1, 4)})
	if m := goes(t, l, 5, true); m.Found != 2 || !slices.Equal(m.Late, []api.Command{late}) {
		t.Errorf("%v", m)
	}
}

// TestP20_4FromTheBeginning: with the hindmost copy as near as it may be, each rung begins when the leading one is as far ahead as its lag.
func TestP20_4FromTheBeginning(t *testing.T) {
	for _, x := range []struct {
		lags []int
		want map[int64][]int64 // by what the leading one is at
	}{
		{[]int{0, 2, 5}, map[int64][]int64{1: {1, 0, 0}, 2: {2, 0, 0}, 3: {3, 1, 0}, 5: {5, 3, 0}, 6: {6, 4, 1}, 30: {30, 28, 25}}},
		{[]int{0, 1, 2, 3, 4}, map[int64][]int64{1: {1, 0, 0, 0, 0}, 2: {2, 1, 0, 0, 0}, 4: {4, 3, 2, 1, 0}, 5: {5, 4, 3, 2, 1}}},
		{[]int{0, 44, 45, 46, 47}, map[int64][]int64{44: {44, 0, 0, 0, 0}, 45: {45, 1, 0, 0, 0}, 47: {47, 3, 2, 1, 0}, 48: {48, 4, 3, 2, 1}, 60: {60, 16, 15, 14, 13}}},
		{[]int{0, 47}, map[int64][]int64{47: {47, 0}, 48: {48, 1}, 100: {100, 53}}},
		{[]int{0, 1}, map[int64][]int64{1: {1, 0}, 2: {2, 1}, 60: {60, 59}}},
	} {
		c := session(2, x.lags...)
		l := made(t, c)
		lag := int64(x.lags[len(x.lags)-1])
		for lead := int64(1); lead <= 100; lead++ {
			was := l.Frames()
			m := goes(t, l, max(0, lead-lag), true)
			steps := int64(0)
			for rung, frame := range l.Frames() {
				steps += frame - was[rung]
			}
			if !isNothing(m) || int64(m.Steps) != steps || m.Steps > len(x.lags) {
				t.Fatalf("lags %v, lead %d: %v", x.lags, lead, m)
			}
			if want := x.want[lead]; want != nil {
				at(t, l, want...)
			}
		}
	}
}

// TestP20_4NothingFound: commands that come in time, just ahead of the leading copy too, are run by each rung, and none is found.
func TestP20_4NothingFound(t *testing.T) {
	for _, lags := range [][]int{{0, 1}, {0, 2, 5}, {0, 1, 2, 3, 4}, {0, 3, 9, 20}} {
		c := session(3, lags...)
		l := made(t, c)
		var held []api.Command
		lag := int64(lags[len(lags)-1])
		for lead := int64(1); lead <= 40; lead++ {
			now := []api.Command{steer(lead, int(lead)%3, int(2*lead)), steer(lead+5, int(lead)%3, int(2*lead+1))}
			puts(t, l, now...)
			held = append(held, now...)
			if m := goes(t, l, max(0, lead-lag), true); !isNothing(m) {
				t.Fatalf("lags %v, lead %d: %v", lags, lead, m)
			}
		}
		for rung, frame := range l.Frames() {
			misses(t, l, rung)
			isWorld(t, l, rung, ref(t, c, frame, held...))
		}
	}
}

// TestP20_4WithoutOn: the hindmost copy alone goes on, and comes up to the one ahead of it, but not beyond.
func TestP20_4WithoutOn(t *testing.T) {
	for _, lags := range lagsOf {
		c := session(2, lags...)
		l := made(t, c)
		leads(t, l, 48)
		was := l.Frames()
		ends := 49 - int64(lags[len(lags)-1])
		for hind := int64(0); hind < ends; {
			next := min(hind+3, ends)
			m := goes(t, l, next, false)
			if !isNothing(m) || int64(m.Steps) != next-hind {
				t.Errorf("lags %v, to %d: %v", lags, next, m)
			}
			hind = next
			was[len(was)-1] = hind
			at(t, l, was...)
			if m := goes(t, l, hind, false); !isNothing(m) || m.Steps != 0 {
				t.Errorf("lags %v, at %d: %v", lags, hind, m)
			}
		}
		stays(t, l, ends+1, false)
		stays(t, l, ends+1, true)
		if hind := hindOf(l); hind > was[len(was)-2] {
			t.Errorf("lags %v: the hindmost is ahead: %v", lags, was)
		}
	}
}
