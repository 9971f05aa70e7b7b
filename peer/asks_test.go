package peer_test

import (
	"slices"
	"testing"

	"echelon/api"
	"echelon/clone"
	"echelon/digest"
	"echelon/peer"
)

// TestP22_5Rungs: what is asked of a rung that is there, and of one that is not.
func TestP22_5Rungs(t *testing.T) {
	for _, lags := range lagsOf {
		c := session(2, lags...)
		p := made(t, c, 0)
		lays(t, p, 1, steer(1))
		ticks(t, p, 3)
		takes(t, p, bytesOf(t, turn(c, 1, 0, 0, 1, 0, 1, 3)), 1)
		f := p.Frames()
		if len(f) != len(lags) || f[0] != 3 {
			t.Errorf("lags %v: Frames %v", lags, f)
		}
		misses(t, p, 0, command(1, 1, 1, steer(1)), command(3, 1, 2, steer(2)))
		for rung, frame := range f {
			isWorld(t, p, rung, ref(t, c, frame, command(1, 0, 1, steer(1))))
		}
		for _, rung := range append([]int{-1, len(lags), len(lags) + 1, 5, 6}, farInts...) {
			misses(t, p, rung)
			if rung >= 0 && rung < len(lags) {
				continue
			}
			if w, e := p.World(rung); e != api.ErrArg || !clone.Same(w, api.World{}) {
				t.Errorf("lags %v, World(%d): %v %d", lags, rung, w, e)
			}
		}
	}
}

// TestP22_5Digest: of each frame that the hindmost copy has passed, and of others.
func TestP22_5Digest(t *testing.T) {
	c := session(2, 0, 1, 3)
	p := made(t, c, 1)
	lays(t, p, 2, steer(1))
	lays(t, p, 5, steer(2))
	ticks(t, p, 8)
	takes(t, p, bytesOf(t, turn(c, 0, 1, 6, 1, 0, 2, 6)), 1)
	for _, hind := range []int64{4, 6, 6} {
		ticks(t, p, 1)
		for frame := range hind + 1 {
			want, _ := clone.Digest(c, ref(t, c, frame, p.Held()...))
			if got, is := p.Digest(frame); got != want || !is {
				t.Errorf("Digest(%d): %x %t, meant %x", frame, got, is, want)
			}
		}
		for _, frame := range append([]int64{-1, hind + 1, hind + 2}, farFrames...) {
			if got, is := p.Digest(frame); got != 0 || is {
				t.Errorf("Digest(%d): %x %t", frame, got, is)
			}
		}
	}
}

// TestP22_5Held: all commands ever laid or taken, by frames, seats and numbers, however they came, and also those that are kept no more.
func TestP22_5Held(t *testing.T) {
	c := session(4, 0, 2)
	p := made(t, c, 2)
	lays(t, p, 9, say(1))
	lays(t, p, 3, say(2))
	takes(t, p, bytesOf(t, turn(c, 3, 2, 0, 1, 0, 9, 3)), 1)
	lays(t, p, 3, say(3))
	takes(t, p, bytesOf(t, turn(c, 0, 2, 0, 1, 0, 12, 3, 9, 3, 1)), 1)
	want := []api.Command{
		command(1, 0, 5, steer(5)),
		command(3, 0, 2, steer(2)), command(3, 0, 4, steer(4)), command(3, 2, 2, say(2)), command(3, 2, 3, say(3)), command(3, 3, 2, steer(2)),
		command(9, 0, 3, steer(3)), command(9, 2, 1, say(1)), command(9, 3, 1, steer(1)),
		command(12, 0, 1, steer(1)),
	}
	holds(t, p, want...)
	for _, from := range []int{0, 1, 3} {
		first := p.Links()[from].Next
		takes(t, p, bytesOf(t, turn(c, from, 2, 20, first, 0)), 1)
	}
	ticks(t, p, 16)
	if p.Kept() != 0 || hindOf(p) != 14 {
		t.Errorf("%d are kept, at %v", p.Kept(), p.Frames())
	}
	holds(t, p, want...)
	takes(t, p, bytesOf(t, turn(c, 1, 2, 20, 1, 0, 21)), 1)
	holds(t, p, append(want, command(21, 1, 1, steer(1)))...)
	if p.Kept() != 1 {
		t.Errorf("%d are kept", p.Kept())
	}
}

// TestP22_5NumbersByDigits: a tenth number is behind a ninth one, on one frame and on several.
func TestP22_5NumbersByDigits(t *testing.T) {
	c := session(2, 0, 2)
	p := made(t, c, 0)
	takes(t, p, bytesOf(t, turn(c, 1, 0, 0, 1, 0, 10, 9, 11, 8, 12, 7, 13, 6, 2, 2, 2, 100-99)), 1)
	got := p.Held()
	var frames []int64
	var numbers []int
	for _, x := range got {
		frames, numbers = append(frames, x.Frame), append(numbers, x.Seq)
	}
	if !slices.Equal(frames, []int64{1, 2, 2, 2, 6, 7, 8, 9, 10, 11, 12, 13}) || !slices.Equal(numbers, []int{12, 9, 10, 11, 8, 6, 4, 2, 1, 3, 5, 7}) {
		t.Errorf("%v", got)
	}
}

// TestP22_5Links: by seats, each its own; the own seat's is zero.
func TestP22_5Links(t *testing.T) {
	for seat := range 5 {
		c := session(5, 0, 2)
		p := made(t, c, seat)
		lays(t, p, 4, say(1), say(2), say(3))
		want := make([]api.LinkState, 5)
		least := int64(99)
		for other := range 5 {
			if other == seat {
				continue
			}
			mark := int64(10 + (other+3)%5)
			frames := slices.Repeat([]int64{20}, other%4)
			takes(t, p, bytesOf(t, turn(c, other, seat, mark, 1, other%4, frames...)), 1)
			want[other] = api.LinkState{Own: 3, Acked: other % 4, Next: 1 + other%4, Mark: mark, Met: true}
			least = min(least, mark)
		}
		if got := p.Links(); !slices.Equal(got, want) || p.Least() != least {
			t.Errorf("seat %d: %v, Least %d, meant %v, %d", seat, got, p.Least(), want, least)
		}
	}
}

// TestP22_5Least: 0 while one of the others has sent no mark; it never falls.
func TestP22_5Least(t *testing.T) {
	c := session(4, 0, 2)
	p := made(t, c, 0)
	for _, x := range []struct {
		from        int
		mark, least int64
		answers     int
	}{{1, 5, 0, 1}, {3, 9, 0, 1}, {2, 0, 0, 0}, {2, 1, 1, 1}, {2, 7, 5, 1}, {1, 4, 5, 0}, {1, 8, 7, 1}, {2, 48, 8, 1}, {1, 48, 9, 1}, {3, 48, 48, 1}, {3, 0, 48, 0}} {
		takes(t, p, bytesOf(t, turn(c, x.from, 0, x.mark, 1, 0)), x.answers)
		if p.Least() != x.least {
			t.Errorf("%v: %d", x, p.Least())
		}
	}
}

// TestP22_5AsksChangeNothing: whatever is asked.
func TestP22_5AsksChangeNothing(t *testing.T) {
	c := session(3, 0, 2, 5)
	p, twin := busy(t, c), busy(t, c)
	for range 60 {
		for range 3 {
			state(p)
		}
		out, e := p.Tick()
		out2, e2 := twin.Tick()
		if e != e2 || len(out) != len(out2) || !slices.Equal(out[1].Bytes, out2[1].Bytes) {
			t.Fatalf("%v %d, meant %v %d", out, e, out2, e2)
		}
	}
	if state(p) != state(twin) {
		t.Error("what was asked has changed something")
	}
}

// TestP22_6Counters: each of the nine, by each call.
func TestP22_6Counters(t *testing.T) {
	c := session(3, 0, 2, 5)
	p := made(t, c, 1)
	var n api.Counters
	step := func(what string, change func()) {
		t.Helper()
		change()
		if got := p.Counters(); got != n {
			t.Errorf("%s: %+v, meant %+v", what, got, n)
		}
	}
	step("Command", func() { lays(t, p, 1, say(1)); n.Accepted = 1 })
	step("Command, refused", func() {
		noLay(t, p, say(1), 0, api.ErrStamp)
		noLay(t, p, say(256), 1, api.ErrVerbOperand)
	})
	step("Command again", func() { lays(t, p, 7, say(1), say(2), say(3)); n.Accepted = 4 })
	step("Command on a full frame", func() { noLay(t, p, say(4), 7, api.ErrFull) })
	step("Tick", func() { ticks(t, p, 1); n.Ticks, n.Steps, n.Sent = 1, 1, 2 })
	step("Ticks", func() { ticks(t, p, 5); n.Ticks, n.Steps, n.Sent = 6, 10, 12 })
	step("a Turn", func() { takes(t, p, bytesOf(t, turn(c, 0, 1, 6, 1, 0, 1, 5)), 1); n.Got, n.Sent = 1, 13 })
	step("the same", func() { takes(t, p, bytesOf(t, turn(c, 0, 1, 6, 1, 0, 1, 5)), 0); n.Got = 2 })
	step("an Ack", func() { takes(t, p, bytesOf(t, ackOf(c, 2, 1, 4)), 0); n.Got = 3 })
	step("bytes", func() { p.Receive(nil); n.Refused = 1 })
	step("an Ack too great", func() { p.Receive(bytesOf(t, ackOf(c, 2, 1, 5))); n.Refused = 2 })
	step("a Tick that finds frame 5", func() {
		ticks(t, p, 1)
		n.Ticks, n.Steps, n.Copies, n.Late, n.Sent = 7, 10+1+2, 1, 1, 15
	})
	step("a mark", func() { takes(t, p, bytesOf(t, turn(c, 2, 1, 6, 1, 4)), 1); n.Got, n.Sent = 4, 16 })
	step("a Tick that finds frame 1", func() {
		ticks(t, p, 1)
		at(t, p, 8, 6, 3)
		n.Ticks, n.Steps, n.Copies, n.Late, n.Sent = 8, 13+3+3+2, 3, 2, 18
	})
	step("more Ticks", func() {
		ticks(t, p, 46)
		at(t, p, 54, 52, 6)
		n.Ticks, n.Steps, n.Sent = 54, 21+2*46+3, 18+92
	})
	step("a stall", func() { stalls(t, p); n.Ticks, n.Stalls, n.Sent = 55, 1, 112 })
	step("asks", func() { state(p) })
}

// TestP22_6Last: ahead of the first Tick, behind each one, and not touched by other calls.
func TestP22_6Last(t *testing.T) {
	c := session(2, 0, 2, 5)
	p := made(t, c, 0)
	did(t, p, api.Moves{})
	lays(t, p, 2, say(1))
	takes(t, p, bytesOf(t, turn(c, 1, 0, 1, 1, 0)), 1)
	did(t, p, api.Moves{})
	for _, steps := range []int{1, 1, 2, 2, 2, 3} {
		ticks(t, p, 1)
		did(t, p, api.Moves{Steps: steps})
	}
	at(t, p, 6, 4, 1)
	takes(t, p, bytesOf(t, turn(c, 1, 0, 3, 1, 1, 2, 3)), 1)
	did(t, p, api.Moves{Steps: 3})
	ticks(t, p, 1)
	own, all := command(2, 0, 1, say(1)), p.Held()
	want := api.Moves{Steps: 6, Found: 2, Copied: 2, Late: []api.Command{command(2, 1, 1, steer(1))}, Wrong: ref(t, c, 6, own), Right: ref(t, c, 6, all...)}
	did(t, p, want)
	lays(t, p, 8, say(2))
	noLay(t, p, say(2), 0, api.ErrStamp)
	refuses(t, p, nil, api.ErrWireForm)
	takes(t, p, bytesOf(t, turn(c, 1, 0, 4, 3, 1)), 1)
	did(t, p, want)
	ticks(t, p, 1)
	did(t, p, api.Moves{Steps: 3})
}

// two is the document's session, both its peers.
func two(t *testing.T, lags ...int) (*peer.Peer, *peer.Peer) {
	t.Helper()
	return made(t, small(lags...), 0), made(t, small(lags...), 1)
}

// TestP22_6DocumentLate is the second of the document's examples of the whole.
func TestP22_6DocumentLate(t *testing.T) {
	p, q := two(t, 0, 2, 5)
	lays(t, p, 2, api.Order{Verb: api.Steer, A: 8})
	b := ticks(t, p, 1)[0].Bytes
	ticks(t, q, 3)
	takes(t, q, b, 1)
	misses(t, q, 0, command(2, 0, 1, api.Order{Verb: api.Steer, A: 8}))
	misses(t, q, 1)
	ticks(t, q, 1)
	misses(t, q, 0)
	counts(t, q, api.Counters{Ticks: 4, Steps: 7, Copies: 1, Late: 1, Sent: 5, Got: 1})
	m := q.Last()
	if m.Wrong.Movers[0].At != (api.Point{X: 6144, Y: 6144}) || m.Wrong.Movers[1] != m.Right.Movers[1] {
		t.Errorf("%+v", m)
	}
	// Behind frame 3, which the leading copy had passed without the command.
	if at := m.Right.Movers[0].At; at.X != 6880 || at.Y != 6144 {
		t.Errorf("%v", at)
	}
}

// quiet is a quiet round: all peers tick, then everything is delivered, what is sent meanwhile too.
func quiet(t *testing.T, peers ...*peer.Peer) {
	t.Helper()
	var flight []api.Parcel
	for _, p := range peers {
		out, _ := p.Tick()
		flight = append(flight, out...)
	}
	for len(flight) > 0 {
		out, e := peers[flight[0].To].Receive(flight[0].Bytes)
		if e != api.OK {
			t.Fatalf("refused: %d", e)
		}
		flight = append(flight[1:], out...)
	}
}

// TestP22_5DocumentSums is the fifth of them.
func TestP22_5DocumentSums(t *testing.T) {
	p, q := two(t, 0, 2)
	lays(t, p, 3, api.Order{Verb: api.Fire, A: 1})
	lays(t, q, 2, api.Order{Verb: api.Steer, A: -3, B: 1})
	for range 6 {
		quiet(t, p, q)
	}
	for _, x := range []*peer.Peer{p, q} {
		at(t, x, 6, 4)
		if sum, is := x.Digest(4); digest.Print(sum) != "cf6d41c58a118bb6" || !is {
			t.Errorf("%s %t", digest.Print(sum), is)
		}
		if sum, is := x.Digest(5); sum != 0 || is {
			t.Errorf("%x %t", sum, is)
		}
	}
}

// TestP22_3DocumentSilent is the seventh of them.
func TestP22_3DocumentSilent(t *testing.T) {
	c := session(3, 0, 1, 3)
	var l []*peer.Peer
	for seat := range 3 {
		l = append(l, made(t, c, seat))
	}
	lays(t, l[1], 2, api.Order{Verb: api.Dash, A: 4})
	var out []api.Parcel
	for range 2 {
		out = append(out, ticks(t, l[0], 1)...)
		out = append(out, ticks(t, l[1], 1)...)
	}
	at(t, l[0], 2, 1, 0)
	for len(out) > 0 {
		more, e := l[out[0].To].Receive(out[0].Bytes)
		if e != api.OK {
			t.Fatal(e)
		}
		out = append(out[1:], more...)
	}
	for range 5 {
		quiet(t, l...)
	}
	at(t, l[0], 7, 6, 4)
	at(t, l[2], 5, 4, 2)
	if got := l[0].Links(); !slices.Equal(got, []api.LinkState{{}, {Own: 0, Acked: 0, Next: 2, Mark: 7, Met: true}, {Next: 1, Mark: 5, Met: true}}) {
		t.Errorf("%+v", got)
	}
}

// TestP22_3DocumentGreatLag is the eighth of them.
func TestP22_3DocumentGreatLag(t *testing.T) {
	p, q := two(t, 0, 47)
	ticks(t, p, 8)
	for range 3 {
		quiet(t, p, q)
	}
	at(t, p, 11, 0)
	at(t, q, 3, 0)
}

// TestP22_4DocumentOlder is the ninth of them.
func TestP22_4DocumentOlder(t *testing.T) {
	p, q := two(t, 0, 2)
	first, second := ticks(t, p, 1)[0], ticks(t, p, 1)[0]
	back := takes(t, q, second.Bytes, 1)
	takes(t, q, first.Bytes, 0)
	takes(t, p, back[0].Bytes, 0)
	if l := q.Links(); l[0] != (api.LinkState{Next: 1, Mark: 2, Met: true}) {
		t.Errorf("%+v", l)
	}
	counts(t, p, api.Counters{Ticks: 2, Steps: 2, Sent: 2, Got: 1})
}
