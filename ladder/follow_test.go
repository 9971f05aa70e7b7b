package ladder_test

import (
	"math/rand"
	"slices"
	"testing"

	"echelon/api"
	"echelon/clone"
	"echelon/ladder"
	"echelon/world"
)

// without are the commands of a list that are not in another one.
func without(all, missed []api.Command) []api.Command {
	return slices.DeleteFunc(slices.Clone(all), func(c api.Command) bool { return slices.Contains(missed, c) })
}

// followsAll holds a ladder to P20.7.
func followsAll(t *testing.T, c api.Config, l *ladder.Ladder, held []api.Command) {
	t.Helper()
	f := l.Frames()
	for rung, frame := range f {
		missed := l.Missed(rung)
		w, _ := l.World(rung)
		want, e := world.Ref(c, frame, without(held, missed))
		if e != api.OK || !clone.Same(w, want) {
			t.Fatalf("at %v, rung %d is not Ref(%d, ..): %v %d, meant %v", f, rung, frame, w, e, want)
		}
		var behind []api.Command // what the rung behind it misses
		if rung < len(f)-1 {
			behind = l.Missed(rung + 1)
		} else if len(missed) > 0 {
			t.Fatalf("at %v, the hindmost rung has missed %v", f, missed)
		}
		if left := without(behind, missed); len(left) > 0 {
			t.Fatalf("at %v, rung %d has missed %v, and the rung ahead of it has not", f, rung+1, left)
		}
		for _, x := range without(missed, behind) {
			if x.Frame <= f[rung+1] || x.Frame > frame {
				t.Fatalf("at %v, rung %d alone has missed %v", f, rung, x)
			}
		}
	}
}

// TestP20_7AnyCalls: behind each call of games in which the hindmost copy is as far behind as it may be, and comes up, over and over.
func TestP20_7AnyCalls(t *testing.T) {
	r := rand.New(rand.NewSource(207))
	stalls := 0
	for _, lags := range [][]int{{0, 1}, {0, 3}, {0, 47}, {0, 2, 5}, {0, 20, 40}, {0, 1, 2, 3}, {0, 5, 11, 30}, {0, 1, 2, 3, 4}, {0, 4, 9, 15, 22}, {0, 44, 45, 46, 47}} {
		c := session(2+r.Intn(5), lags...)
		c.Seed = r.Uint64()
		l := made(t, c)
		var held []api.Command
		seq := 0
		for round := range 120 {
			f := l.Frames()
			for range r.Intn(3) {
				seq++
				x := api.Command{Frame: f[len(f)-1] + 1 + r.Int63n(f[0]-f[len(f)-1]+4), Peer: r.Intn(c.Peers), Seq: seq, Order: drawnOrder(r)}
				if l.Put(x) == api.OK {
					held = append(held, x)
				}
				if r.Intn(4) == 0 {
					followsAll(t, c, l, held)
				}
			}
			hind := f[len(f)-1]
			if round%80 > 55 { // till then the hindmost one waits, and the leading one comes to stand still
				hind = max(hind, min(hind+r.Int63n(5), f[0]+1-int64(lags[len(lags)-1])))
			}
			if _, e := l.Move(hind, true); e != api.OK {
				stalls++
				if f[0]-hind != 48 || hind < f[len(f)-1] {
					t.Fatalf("Move(%d, true) at %v: %d", hind, f, e)
				}
				goes(t, l, hind, false)
			}
			followsAll(t, c, l, held)
		}
	}
	if stalls < 50 {
		t.Errorf("only %d Moves were refused for MaxSpan", stalls)
	}
}

// TestP20_8Steps: how many frames a Move runs, at most and, if nothing is found, just.
func TestP20_8Steps(t *testing.T) {
	r := rand.New(rand.NewSource(208))
	most, found := 0, 0
	for range 60 {
		lags := drawnLags(r)
		if r.Intn(3) == 0 {
			lags = lagsOf[r.Intn(len(lagsOf))]
		}
		k := len(lags)
		c := session(2, lags...)
		l := made(t, c)
		seq := 0
		for range 90 {
			f := l.Frames()
			hind := f[k-1]
			if r.Intn(4) == 0 {
				seq++
				l.Put(steer(hind+1+r.Int63n(f[0]-hind+2), 0, seq))
			}
			if r.Intn(5) == 0 {
				hind = max(hind, min(hind+r.Int63n(5), f[0]+1-int64(lags[k-1])))
			}
			m, e := l.Move(hind, f[0]-hind < 48)
			if e != api.OK {
				t.Fatalf("Move(%d, ..) at %v: %d", hind, f, e)
			}
			if m.Found == 0 && (m.Steps > k+3 || m.Steps > k-1+int(hind-f[k-1])) {
				t.Fatalf("lags %v at %v to %v: %d steps, nothing found", lags, f, l.Frames(), m.Steps)
			}
			if m.Steps > k*48+4 || m.Steps < 0 {
				t.Fatalf("lags %v at %v to %v: %d steps", lags, f, l.Frames(), m.Steps)
			}
			if m.Found > 0 {
				found++
				most = max(most, m.Steps)
			}
		}
	}
	if found < 200 || most < 40 {
		t.Errorf("%d Moves have found something, with at most %d steps", found, most)
	}
}

// TestP20_8Most: what the greatest ladders run, worked out.
func TestP20_8Most(t *testing.T) {
	c := session(2, 0, 1, 2, 3, 4)
	l := standing(t, c, 48, 0)
	puts(t, l, steer(1, 0, 1))
	if m := goes(t, l, 4, true); m.Steps != 49 || m.Found != 4 { // 4, then 42, 1, 1, 1
		t.Errorf("%v", m)
	}
	l = standing(t, c, 48, 0)
	if m := goes(t, l, 4, true); m.Steps != 8 || !isNothing(m) { // four rungs one frame each, the hindmost one four
		t.Errorf("%v", m)
	}
}
