package shell_test

import (
	"fmt"
	"strconv"
	"strings"
	"testing"

	"echelon/api"
	"echelon/arena"
	"echelon/clone"
	"echelon/digest"
	"echelon/view"
	"echelon/world"
)

// many is a line so many times, as lines of one text.
func many(n int, line string) string {
	return strings.TrimSuffix(strings.Repeat(line+"\n", n), "\n")
}

// oks are so many lines that tell ok.
func oks(n int) string { return strings.Repeat("ok\n", n) }

// noSeats are numbers that are no seat among so many peers.
func noSeats(peers int) []string {
	return []string{strconv.Itoa(peers), strconv.Itoa(peers + 1), "-1", "-2", "6", "7", "100", "2147483648", "4294967296", "4294967297", "-4294967296", "9223372036854775807", "-9223372036854775808"}
}

// TestP25_2Order: what a Command answers, each error of it that a line can have.
func TestP25_2Order(t *testing.T) {
	tells(t, "ok\nerror 221\nerror 221\nerror 221\nok\nok\nok\nok\nerror 222\nok\nok\nerror 222\n1/0/1 halt; 1/0/2 say 1; 1/0/3 say 2; 16/0/4 say 3; 16/0/5 halt; 16/0/6 halt\n",
		begin, "order 0 0 halt", "order 0 17 halt", "order 0 -1 halt", "order 0 1 halt", "order 0 1 say 1", "order 0 1 say 2", "order 0 16 say 3", "order 0 1 say 4", "order 0 16 halt", "order 0 16 halt", "order 0 16 halt", "table")
	// Where the leading copy has gone on.
	tells(t, oks(6)+"error 221\nok\nok\nerror 221\nerror 240\n", begin, many(5, "tick 1"), "order 1 5 halt", "order 1 6 halt", "order 1 21 halt", "order 1 22 halt", "order 2 6 halt")
	for _, p := range noSeats(3) {
		tells(t, "ok\nerror 240\nerror 240\nerror 240\n-\n", "game 3 7 x 3 0 2", "order "+p+" 1 halt", "order "+p+" 0 halt", "order "+p+" 17 fire 2", "table")
	}
	for _, frame := range []string{"0", "-1", "17", "18", "4294967297", "-4294967295", "9223372036854775807", "-9223372036854775808", "-9223372036854775807"} {
		tells(t, "ok\nerror 221\nerror 221\n-\n-\n", begin, "order 0 "+frame+" halt", "order 1 "+frame+" fire 3", "table", "held 0")
	}
}

// TestP25_2Tick: what a Tick answers; one that stalls tells so in words.
func TestP25_2Tick(t *testing.T) {
	tells(t, oks(49)+"stall\nstall\nerror 240\nerror 221\nok\n48 0\n0 0\nticks 50 stalls 2 steps 48 copies 0 late 0 sent 50 got 0 refused 0 accepted 1\n",
		begin, many(48, "tick 0"), "tick 0", "tick 0", "tick 2", "order 0 48 halt", "order 0 49 halt", "frames 0", "frames 1", "count 0")
	// What a Tick sends that stalls is there too; and when the other one has come, the leading copy goes on.
	tells(t, oks(49)+"stall\nok\nok\n0:0/0/1/48\nok\nok\n49 1\n",
		begin, many(48, "tick 0"), "tick 0", "tick 1", "deliver 49", "links 1", "deliver 50", "tick 0", "frames 0")
	for _, peers := range []int{2, 6} {
		for _, p := range noSeats(peers) {
			tells(t, "ok\nerror 240\n-\n", fmt.Sprintf("game 1 7 x %d 0 2", peers), "tick "+p, "flight")
		}
	}
}

// TestP25_2Parcels: what Deliver, Drop and Double answer.
func TestP25_2Parcels(t *testing.T) {
	for _, word := range []string{"deliver", "drop", "double"} {
		tells(t, "ok\nerror 170\nerror 170\nerror 170\n", begin, word+" 1", word+" 0", word+" -1")
		tells(t, "ok\nok\nok\nok\nerror 170\nerror 170\nok\nerror 170\nerror 170\n", begin, "tick 0", "tick 1", "drop 1", word+" 1", word+" 3", word+" 2", word+" 9223372036854775807", word+" -9223372036854775808")
	}
	tells(t, oks(5)+"1:0>1; 3:0>1\nok\n1:0>1; 4:1>0\nok\nerror 170\nerror 170\nerror 170\n1:0>1\n", begin, "tick 0", "double 1", "double 1", "drop 2", "flight", "deliver 3", "flight", "deliver 4", "deliver 3", "drop 4", "double 2", "flight")
}

// TestP25_2Quiet: from 0 to MaxRounds rounds.
func TestP25_2Quiet(t *testing.T) {
	tells(t, "ok\nok\n0 0\nok\n1 0\nok\n201 199\nok\n201 199\nerror 1\nerror 1\n201 199\n-\n", begin, "quiet 0", "frames 1", "quiet 1", "frames 0", "quiet 200", "frames 0", "quiet 0", "frames 1", "quiet 201", "quiet -1", "frames 0", "flight")
	for _, n := range []string{"202", "1000", "4294967296", "-4294967295", "9223372036854775807", "-9223372036854775808"} {
		tells(t, "ok\nok\nerror 1\n1:0>1\n", begin, "tick 0", "quiet "+n, "flight")
	}
}

// TestP25_2Flight: none, one, several, by their numbers, whoever sent them.
func TestP25_2Flight(t *testing.T) {
	tells(t, "ok\n-\nok\n1:2>0; 2:2>1; 3:2>3\nok\n1:2>0; 2:2>1; 3:2>3; 4:0>1; 5:0>2; 6:0>3\nok\nok\nok\n1:2>0; 2:2>1; 4:0>1; 5:0>2; 6:0>3; 8:3>2\nok\n-\n",
		"game 3 7 x 4 0 2", "flight", "tick 2", "flight", "tick 0", "flight", "double 1", "drop 7", "deliver 3", "flight", "quiet 1", "flight")
}

// TestP25_2Commands: the table in the order of laying; what a peer holds by frames, seats and numbers.
func TestP25_2Commands(t *testing.T) {
	l := []string{begin, "table", "held 0", "held 1",
		"order 1 9 steer -8 8", "table", "order 0 9 shield 1", "order 1 3 dash 15", "order 1 9 aim 0", "order 0 12 fire 1", "table", "held 1", "held 0",
		"tick 1", "deliver 1", "held 0", "held 1"}
	tells(t, "ok\n-\n-\n-\nok\n9/1/1 steer -8 8\n"+oks(4)+
		"9/1/1 steer -8 8; 9/0/1 shield 1; 3/1/2 dash 15; 9/1/3 aim 0; 12/0/2 fire 1\n"+
		"3/1/2 dash 15; 9/1/1 steer -8 8; 9/1/3 aim 0\n"+
		"9/0/1 shield 1; 12/0/2 fire 1\n"+
		"ok\nok\n"+
		"3/1/2 dash 15; 9/0/1 shield 1; 9/1/1 steer -8 8; 9/1/3 aim 0; 12/0/2 fire 1\n"+
		"3/1/2 dash 15; 9/1/1 steer -8 8; 9/1/3 aim 0\n", l...)
}

// TestP25_2Missed: what each rung has missed; of a rung that there is not, nothing.
func TestP25_2Missed(t *testing.T) {
	l := []string{"game 3 7 0 2 5", "order 0 1 halt", "order 0 2 say 4", "order 0 3 say 5", "tick 0", many(4, "tick 1"), "deliver 1"}
	for _, rung := range []string{"0", "1", "2", "3", "-1", "4", "5", "256", "4294967296", "-4294967295", "9223372036854775807", "-9223372036854775808"} {
		l = append(l, "missed 1 "+rung, "missed 0 "+rung)
	}
	tells(t, oks(10)+"1/0/1 halt; 2/0/2 say 4; 3/0/3 say 5\n-\n1/0/1 halt; 2/0/2 say 4\n"+strings.Repeat("-\n", 21), l...)
}

// TestP25_2Frames: those of two to five copies.
func TestP25_2Frames(t *testing.T) {
	tells(t, "ok\n0 0\nok\n1 0\n0 0\nok\n10 8\n", "game 3 7 0 1", "frames 0", "tick 0", "frames 0", "frames 1", "quiet 9", "frames 0")
	tells(t, oks(3)+"50 49 46 38 3\n49 48 45 37 2\n", "game 1 7 0 1 4 12 47", "tick 0\nquiet 49", "frames 0", "frames 1")
}

// TestP25_2Sum: of the frames that the hindmost copy has passed, and of none else.
func TestP25_2Sum(t *testing.T) {
	a, _ := arena.Standard(3)
	c := api.Config{Peers: 2, Seed: 7, Arena: a, Lags: []int{0, 2}}
	l := []string{begin, "order 1 2 fire 2", "quiet 6"}
	want := oks(3)
	for f := int64(0); f <= 4; f++ {
		w, _ := world.Ref(c, f, []api.Command{{Frame: 2, Peer: 1, Seq: 1, Order: api.Order{Verb: api.Fire, A: 2}}})
		d, e := clone.Digest(c, w)
		if e != 0 {
			t.Fatal(e)
		}
		l = append(l, fmt.Sprint("sum 0 ", f), fmt.Sprint("sum 1 ", f))
		want += strings.Repeat(digest.Print(d)+"\n", 2)
	}
	for _, f := range []string{"5", "6", "7", "-1", "-2", "4294967296", "4294967300", "9223372036854775807", "-9223372036854775808"} {
		l = append(l, "sum 0 "+f, "sum 1 "+f)
		want += "-\n-\n"
	}
	tells(t, want, l...)
}

// TestP25_2Links: each other peer, by seats.
func TestP25_2Links(t *testing.T) {
	tells(t, "ok\n1:0/0/1/0\n0:0/0/1/0\n", begin, "links 0", "links 1")
	l := []string{"game 1 7 x 6 0 2", "order 3 1 halt", "order 3 1 halt", "order 5 2 say 1", "tick 3", "tick 3", "tick 5", "deliver 6", "deliver 14", "links 0", "links 3", "links 4", "links 5"}
	told := taken(t, l...)
	for i, want := range []string{
		"1:0/0/1/0; 2:0/0/1/0; 3:0/0/3/2; 4:0/0/1/0; 5:0/0/1/0",
		"0:2/0/1/0; 1:2/0/1/0; 2:2/0/1/0; 4:2/0/1/0; 5:2/0/2/1",
		"0:0/0/1/0; 1:0/0/1/0; 2:0/0/1/0; 3:0/0/1/0; 5:0/0/1/0",
		"0:1/0/1/0; 1:1/0/1/0; 2:1/0/1/0; 3:1/0/1/0; 4:1/0/1/0",
	} {
		if got := told[len(told)-4+i]; got != want {
			t.Errorf("%q, meant %q", got, want)
		}
	}
	tells(t, "ok\nok\nok\nok\nok\n1:1/1/1/0\n0:0/0/2/1\n", begin, "order 0 1 halt", "tick 0", "deliver 1", "deliver 2", "links 0", "links 1")
}

// TestP25_2Put: what the last Tick has put right: places, health and points, more and less; of none at all, and where nothing stands elsewhere.
func TestP25_2Put(t *testing.T) {
	last := func(n int, want string, lines ...string) {
		t.Helper()
		told := taken(t, lines...)
		if got := strings.Join(told[len(told)-n:], "\n"); got != want {
			t.Errorf("%q: %q, meant %q", lines, got, want)
		}
	}
	tells(t, "ok\n-\n-\nok\n-\n-\nok\n-\n", begin, "put 0", "put 1", "tick 0", "put 0", "put 1", "quiet 9", "put 1")
	// A shot that comes late has hit.
	last(5, "ok\n-\nok\nA 6144,6144 6144,6144 0 3; B 26624,6144 26624,6144 -45 0\n-",
		"game 3 7 0 20", "order 0 1 fire 3", "tick 0", many(20, "tick 1"), "tick 0\ndrop 22\ndeliver 1", "put 1", "tick 1", "put 1", "put 0")
	// A shield that comes late has been there.
	last(3, "B 26624,6144 26624,6144 18 0\nok\n-",
		"game 3 7 0 20", "order 0 1 fire 3", "order 1 1 shield 1", "tick 1", many(20, "tick 0"), "deliver 1", "tick 0", "put 0", "tick 0", "put 0")
	// One that has gone away, and was not hit.
	a, _ := arena.Standard(3)
	dash := api.Command{Frame: 1, Peer: 1, Seq: 1, Order: api.Order{Verb: api.Dash, A: 4}}
	w, e := world.Ref(api.Config{Peers: 2, Seed: 7, Arena: a, Lags: []int{0, 25}}, 25, []api.Command{dash})
	at := w.Movers[1].At
	if e != 0 || at.X != 26624 || at.Y < 8192 {
		t.Fatalf("%+v %d", at, e)
	}
	last(1, fmt.Sprintf("A 6144,6144 6144,6144 0 -3; B 26624,6144 26624,%d 45 0", at.Y),
		"game 3 7 0 25", "order 0 1 fire 3", "order 1 1 dash 4", "tick 1", many(25, "tick 0"), "deliver 1", "tick 0", "put 0")
	// Something was found, but nothing stands elsewhere.
	last(3, "ok\n-\nticks 4 stalls 0 steps 7 copies 1 late 1 sent 5 got 1 refused 0 accepted 0",
		"game 3 7 0 2 5", "order 0 2 say 3", "tick 0", many(3, "tick 1"), "deliver 1", "tick 1", "put 1", "count 1")
	// A stall puts nothing right.
	last(2, "stall\n-", begin, many(48, "tick 0"), "tick 0", "put 0")
}

// TestP25_2PutEachLetter: of six movers, all but the own one's.
func TestP25_2PutEachLetter(t *testing.T) {
	for own := range 6 {
		l := []string{"game 1 7 x 6 0 2"}
		for seat := range 6 {
			if seat != own {
				l = append(l, fmt.Sprintf("order %d 1 steer 0 8", seat), fmt.Sprint("tick ", seat))
			}
		}
		l = append(l, fmt.Sprint("tick ", own), fmt.Sprint("tick ", own), fmt.Sprint("tick ", own))
		for i := range 5 {
			at := own
			if i < own {
				at = own - 1
			}
			l = append(l, fmt.Sprint("deliver ", 5*i+1+at))
		}
		l = append(l, fmt.Sprint("tick ", own), fmt.Sprint("put ", own))
		told := taken(t, l...)
		parts := strings.Split(told[len(told)-1], "; ")
		letters := ""
		for _, p := range parts {
			letters += p[:1]
			if !strings.HasSuffix(p, " 0 0") || len(strings.Split(p, " ")) != 5 {
				t.Errorf("seat %d: %q", own, p)
			}
		}
		if want := strings.ReplaceAll("ABCDEF", string(rune('A'+own)), ""); letters != want {
			t.Errorf("seat %d: %q, meant %q", own, told[len(told)-1], want)
		}
	}
}

// TestP25_2Count: each peer's own.
func TestP25_2Count(t *testing.T) {
	tells(t, oks(8)+"error 221\nticks 2 stalls 0 steps 2 copies 0 late 0 sent 2 got 1 refused 0 accepted 1\nticks 0 stalls 0 steps 0 copies 0 late 0 sent 1 got 2 refused 0 accepted 1\n",
		begin, "order 0 1 halt", "order 1 4 halt", "tick 0", "tick 0", "deliver 2", "deliver 3", "deliver 1", "order 1 0 halt", "count 0", "count 1")
}

// TestP25_2Copies: a copy's world and scores, in several lines, with no line feed more than these have between them.
func TestP25_2Copies(t *testing.T) {
	for m, peers := range []int{4, 6, 6, 4} {
		a, _ := arena.Standard(m)
		c := api.Config{Peers: peers, Seed: 99, Arena: a, Lags: []int{0, 3, 7}}
		l := []string{fmt.Sprintf("game %d 99 x %d 0 3 7", m, peers), "quiet 40", "tick 1"}
		want := oks(3)
		for p := range peers {
			for rung, frame := range []int64{40, 37, 33} {
				if p == 1 {
					frame++
				}
				w, _ := world.Ref(c, frame, nil)
				shown, _ := view.Show(c, w)
				table, _ := view.Table(w.Scores)
				l = append(l, fmt.Sprintf("show %d %d", p, rung), fmt.Sprintf("score %d %d", p, rung))
				want += shown + table
			}
		}
		tells(t, want, l...)
	}
	tells(t, "ok\nframe 0\n########\n#A....B#\n#......#\n#......#\n#......#\n########\nA at 6144,6144 health 100 energy 50 points 0\nB at 26624,6144 health 100 energy 50 points 0\n1 A points 0 hits 0 outs 0 streak 0\n2 B points 0 hits 0 outs 0 streak 0\n-\n",
		begin, "show 1 1", "score 0 1", "flight")
	for _, rung := range []string{"2", "3", "-1", "5", "256", "4294967296", "-4294967295", "9223372036854775807", "-9223372036854775808"} {
		tells(t, "ok\nerror 1\nerror 1\nerror 1\nerror 1\n", begin, "show 0 "+rung, "score 0 "+rung, "show 1 "+rung, "score 1 "+rung)
	}
}

// TestP25_2NoSeat: of a seat that there is not, whatever else is asked of it.
func TestP25_2NoSeat(t *testing.T) {
	for _, peers := range []int{2, 3, 6} {
		for _, p := range noSeats(peers) {
			l := []string{fmt.Sprintf("game 1 7 x %d 0 2", peers), "quiet 3"}
			for _, word := range []string{"frames", "held", "links", "count", "put"} {
				l = append(l, word+" "+p)
			}
			for _, word := range []string{"missed", "sum", "show", "score"} {
				for _, n := range []string{"0", "1", "2", "-1", "99"} {
					l = append(l, word+" "+p+" "+n)
				}
			}
			tells(t, "ok\nok\n"+strings.Repeat("error 240\n", 25), l...)
		}
		for p := range peers {
			told := taken(t, fmt.Sprintf("game 1 7 x %d 0 2", peers), fmt.Sprint("frames ", p), fmt.Sprint("held ", p), fmt.Sprint("links ", p), fmt.Sprint("count ", p), fmt.Sprint("put ", p), fmt.Sprint("missed ", p, " 0"), fmt.Sprint("sum ", p, " 0"), fmt.Sprint("score ", p, " 0"))
			if len(told) != 8+peers || strings.Contains(strings.Join(told, "\n"), "error") {
				t.Errorf("seat %d of %d: %q", p, peers, told)
			}
		}
	}
}

// TestP25_2Anew: a game behind another one has nothing of it: peers, lags, parcels' numbers, commands, counters.
func TestP25_2Anew(t *testing.T) {
	for _, next := range []string{begin, "game 3 7 x 3 0 2", "game 1 0 x 6 0 1 2 3 4", "game 0 9223372036854775807 0 47"} {
		asked := []string{next, "flight", "table", "frames 0", "frames 1", "frames 2", "held 0", "missed 0 0", "missed 0 2", "sum 0 0", "sum 0 1", "links 1", "count 0", "put 0", "show 1 1", "show 1 2", "score 0 0", "score 5 0",
			"order 0 1 halt", "order 0 17 halt", "drop 1", "tick 0", "flight", "deliver 1", "table", "held 1", "quiet 3", "frames 1", "sum 1 1"}
		alone := taken(t, asked...)
		for _, ahead := range [][]string{
			{begin},
			{begin, "order 0 1 fire 3", "order 1 2 say 9", "tick 0", "tick 1", "double 1", "deliver 2", "quiet 20", "tick 1"},
			{"game 1 5 x 6 0 3 5 9", "tick 5", "order 5 9 halt", "quiet 4", "show 5 3"},
			{begin, begin, begin},
		} {
			both := taken(t, append(append([]string{}, ahead...), asked...)...)
			first := taken(t, ahead...)
			if strings.Join(both, "\n") != strings.Join(append(first, alone...), "\n") {
				t.Errorf("%q behind %q: %q", next, ahead, both[len(first):])
			}
		}
	}
	// One that may not be is refused with all that was ahead of it.
	refuses(t, 3, begin, "tick 0", "game 3 7 0 48", "flight")
}

// TestP25_2Seeds: the seed is the session's.
func TestP25_2Seeds(t *testing.T) {
	for _, seed := range []uint64{0, 1, 7, 1 << 32, 1<<63 - 1} {
		a, _ := arena.Standard(2)
		c := api.Config{Peers: 2, Seed: seed, Arena: a, Lags: []int{0, 4}}
		w, _ := world.Ref(c, 96, nil)
		d, _ := clone.Digest(c, w)
		shown, _ := view.Show(c, w)
		tells(t, "ok\nok\n"+digest.Print(d)+"\n"+shown, fmt.Sprintf("game 2 %d 0 4", seed), "quiet 100", "sum 0 96", "show 1 1")
	}
}

// TestP25_2Agreement: however parcels are lost, doubled and late, in the end all hindmost copies have the same sums.
func TestP25_2Agreement(t *testing.T) {
	l := []string{"game 1 31 x 5 0 2 6 11"}
	for i := range 300 {
		p := i * 7 % 5
		l = append(l, fmt.Sprintf("order %d %d steer %d %d", p, i/5+2+i%3, i%17-8, i*5%17-8), fmt.Sprint("tick ", i%5), fmt.Sprintf("%s %d", []string{"deliver", "drop", "double", "deliver"}[i%4], i*3-i%11))
	}
	l = append(l, "quiet 60")
	asked := len(l)
	for _, f := range []int{1, 5, 20, 40, 60, 80} {
		for p := range 5 {
			l = append(l, fmt.Sprintf("sum %d %d", p, f))
		}
	}
	told := taken(t, l...)[asked:]
	for i := range told {
		if len(told[i]) != 16 || told[i] != told[i/5*5] {
			t.Errorf("%s: %q, but %q", l[asked+i], told[i], told[i/5*5])
		}
	}
	for p := range 5 {
		l = append(l, fmt.Sprint("count ", p))
	}
	for _, line := range taken(t, l...)[asked+30:] {
		if !strings.Contains(line, " refused 0 ") || strings.Contains(line, " late 0 ") {
			t.Error(line)
		}
	}
}
