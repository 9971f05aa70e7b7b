package peer_test

import (
	"bytes"
	"slices"
	"testing"

	"echelon/api"
	"echelon/peer"
	"echelon/wire"
)

// busy is a peer of three, on seat 1, of which each refusal may come: it has laid three commands, of which seat 0 has acknowledged one; two of seat 0 have come, with mark 3; nothing of seat 2.
func busy(t *testing.T, c api.Config) *peer.Peer {
	t.Helper()
	p := made(t, c, 1)
	lays(t, p, 1, say(1))
	lays(t, p, 4, say(2), say(3))
	ticks(t, p, 5)
	takes(t, p, bytesOf(t, turn(c, 0, 1, 3, 1, 1, 2, 6)), 1)
	ticks(t, p, 1)
	return p
}

// TestP22_4Bytes: all kinds of bytes that wire.Decode refuses.
func TestP22_4Bytes(t *testing.T) {
	c := session(3, 0, 2, 5)
	p := busy(t, c)
	n := number(c)
	good := bytesOf(t, turn(c, 0, 1, 5, 3, 1, 7))
	for _, x := range []struct {
		name string
		b    []byte
		want api.Errno
	}{
		{"nothing", nil, api.ErrWireForm},
		{"no byte", []byte{}, api.ErrWireForm},
		{"seven bytes", make([]byte, 7), api.ErrWireForm},
		{"eight noughts", make([]byte, 8), api.ErrWireSum},
		{"a sum alone", sealed(), api.ErrWireForm},
		{"too many bytes", make([]byte, 16385), api.ErrWireForm},
		{"too many bytes, and a sum", sealed(make([]byte, 16377)...), api.ErrWireForm},
		{"as many as may be", make([]byte, 16384), api.ErrWireSum},
		{"as many as may be, and a sum", sealed(make([]byte, 16376)...), api.ErrWireForm},
		{"the last byte lacks", good[:len(good)-1], api.ErrWireSum},
		{"the first byte lacks", good[1:], api.ErrWireSum},
		{"a byte more", append(slices.Clone(good), 0), api.ErrWireSum},
		{"another sign", sealed(append([]byte{0x66}, good[1:len(good)-8]...)...), api.ErrWireForm},
		{"a byte more ahead of the sum", sealed(append(slices.Clone(good[:len(good)-8]), 0)...), api.ErrWireForm},
		{"a byte less ahead of the sum", sealed(good[:len(good)-9]...), api.ErrWireForm},
		{"kind 0", raw(0, n, 0, 1, 0), api.ErrWireForm},
		{"kind 3", raw(3, n, 0, 1, 0), api.ErrWireForm},
		{"a number in two bytes for one", raw(2, n, 0, 1, 0x81, 0), api.ErrWireForm},
		{"an Ack above MaxNo", raw(2, n, 0, 1, 0x81, 0x80, 0x80, 0x80, 0x80, 0x20), api.ErrWireForm},
		{"no such verb", raw(1, n, 0, 1, 5, 3, 1, 4, 9, 0), api.ErrWireForm},
		{"337 commands", raw(1, n, 0, 1, 5, 3, 0xd1, 0x02, 0), api.ErrWireForm},
		{"seat 6", raw(2, n, 6, 1, 0), api.ErrWireData},
		{"to seat 255", raw(2, n, 0, 255, 0), api.ErrWireData},
		{"to itself", raw(2, n, 1, 1, 0), api.ErrWireData},
		{"First 0", raw(1, n, 0, 1, 5, 0, 0, 0), api.ErrWireData},
		{"an operand too great", raw(1, n, 0, 1, 5, 3, 1, 4, api.Fire, 8, 0), api.ErrWireData},
		{"a frame of 0", raw(1, n, 0, 1, 5, 3, 1, 9, api.Halt, 0), api.ErrWireData},
	} {
		if _, e := wire.Decode(x.b); e != x.want {
			t.Fatalf("%s: Decode says %d, meant %d", x.name, e, x.want)
		}
		refuses(t, p, x.b, x.want)
	}
	takes(t, p, good, 1)
}

// TestP22_4Strangers: whatever else a datagram of another session has.
func TestP22_4Strangers(t *testing.T) {
	c := session(3, 0, 2, 5)
	p := busy(t, c)
	for _, session := range []uint64{0, 1, number(c) + 1, number(c) - 1, ^number(c), number(c) ^ 1<<63, number(c) << 32} {
		for _, d := range []api.Datagram{turn(c, 0, 1, 5, 3, 1), ackOf(c, 0, 1, 1), turn(c, 2, 1, 5, 1, 0)} {
			d.Session = session
			refuses(t, p, bytesOf(t, d), api.ErrStranger)
		}
	}
}

func TestP22_4Seats(t *testing.T) {
	for peers := 2; peers <= 6; peers++ {
		for seat := range peers {
			c := session(peers, 0, 2)
			p := made(t, c, seat)
			for from := range 6 {
				for to := range 6 {
					if from == to {
						continue
					}
					t1, a := bytesOf(t, turn(c, from, to, 2, 1, 0)), bytesOf(t, ackOf(c, from, to, 0))
					if to == seat && from < peers {
						takes(t, p, a, 0)
						takes(t, p, t1, 1)
						continue
					}
					refuses(t, p, t1, api.ErrSeat)
					refuses(t, p, a, api.ErrSeat)
				}
			}
			if p.Least() != 2 {
				t.Errorf("Least %d", p.Least())
			}
		}
	}
}

// TestP22_4Links: each error of the link's Take.
func TestP22_4Links(t *testing.T) {
	c := session(3, 0, 2, 5)
	p := busy(t, c) // at 6, 4, 0
	own := func(mark int64, ack int) api.Datagram { return turn(c, 2, 1, mark, 1, ack) }
	for _, x := range []struct {
		name string
		d    api.Datagram
		want api.Errno
	}{
		{"a number ahead", turn(c, 0, 1, 5, 4, 1, 7), api.ErrGap},
		{"a number ahead, and no commands", turn(c, 0, 1, 5, 4, 1), api.ErrGap},
		{"a number ahead, of who has sent nothing", turn(c, 2, 1, 5, 2, 0), api.ErrGap},
		{"an Ack above own", ackOf(c, 0, 1, 4), api.ErrBroken},
		{"a Turn with an Ack above own", turn(c, 0, 1, 5, 3, 4), api.ErrBroken},
		{"a mark above lead + MaxSpan", turn(c, 0, 1, 55, 3, 3), api.ErrBroken},
		{"the greatest mark", turn(c, 0, 1, 1<<40, 3, 3), api.ErrBroken},
		{"own commands that are wanted still", own(49, 0), api.ErrBroken},
		{"the second one of them", own(52, 1), api.ErrBroken},
		{"the third one of them", own(52, 2), api.ErrBroken},
		{"a command at the mark", turn(c, 0, 1, 5, 3, 1, 3), api.ErrBroken},
		{"a command below the mark", turn(c, 0, 1, 5, 3, 1, 1), api.ErrBroken},
		{"a command too far ahead", turn(c, 0, 1, 5, 3, 1, 22), api.ErrBroken},
		{"a fourth command on a frame", turn(c, 0, 1, 5, 3, 1, 6, 6, 6), api.ErrBroken},
		{"a fourth command on a frame at once", turn(c, 2, 1, 5, 1, 0, 9, 9, 9, 9), api.ErrBroken},
		{"several, of which the last one is wrong", turn(c, 0, 1, 5, 3, 1, 7, 8, 22), api.ErrBroken},
	} {
		was := p.Counters().Refused
		refuses(t, p, bytesOf(t, x.d), x.want)
		if p.Counters().Refused != was+1 || t.Failed() {
			t.Fatal(x.name)
		}
	}
	// All of them by one less.
	for _, x := range []struct {
		d    api.Datagram
		kept int
	}{
		{turn(c, 0, 1, 5, 3, 1, 7), 1},
		{ackOf(c, 0, 1, 3), 0},
		{turn(c, 0, 1, 5, 3, 3), 0},
		{turn(c, 0, 1, 54, 3, 3), 0},
		{own(48, 0), 0},
		{own(51, 1), 0},
		{own(52, 3), 0},
		{turn(c, 0, 1, 5, 3, 1, 4), 1},
		{turn(c, 0, 1, 5, 3, 1, 21), 1},
		{turn(c, 0, 1, 5, 3, 1, 6, 6), 2},
		{turn(c, 2, 1, 5, 1, 0, 9, 9, 9), 3},
	} {
		p := busy(t, c)
		kept := p.Kept()
		if _, e := p.Receive(bytesOf(t, x.d)); e != api.OK || p.Kept() != kept+x.kept {
			t.Errorf("%+v: %d, %d more are kept", x.d, e, p.Kept()-kept)
		}
	}
}

// TestP22_4Lead: the mark that may come goes on with the leading copy.
func TestP22_4Lead(t *testing.T) {
	c := session(2, 0, 2)
	p := made(t, c, 0)
	for lead := range int64(40) {
		refuses(t, p, bytesOf(t, turn(c, 1, 0, lead+49, 1, 0)), api.ErrBroken)
		takes(t, p, bytesOf(t, turn(c, 1, 0, lead+48, 1, 0)), 1)
		if p.Least() != lead+48 {
			t.Errorf("Least %d", p.Least())
		}
		ticks(t, p, 1)
	}
}

// TestP22_4Several: which of several errors is told.
func TestP22_4Several(t *testing.T) {
	c := session(3, 0, 2, 5)
	p := busy(t, c)
	strange := number(c) + 1
	// Of all that can be wrong, one thing less each time.
	d := turn(c, 5, 2, 1<<40, 9, 99, 1, 1, 1, 1)
	d.Session = strange
	b := bytesOf(t, d)
	b[len(b)-1]++
	refuses(t, p, b, api.ErrWireSum)
	refuses(t, p, raw(1, strange, 5, 2, 1, 0, 0, 99), api.ErrWireData)
	refuses(t, p, raw(1, strange, 5, 5, 1, 9, 0, 99), api.ErrWireData)
	refuses(t, p, raw(1, strange, 5, 2, 1, 9, 0), api.ErrWireForm)
	refuses(t, p, bytesOf(t, d), api.ErrStranger)
	d.Session = number(c)
	refuses(t, p, bytesOf(t, d), api.ErrSeat)
	d.To = 1
	refuses(t, p, bytesOf(t, d), api.ErrSeat) // from no seat of the session
	d = turn(c, 0, 2, 1<<40, 9, 99, 1, 1, 1, 1)
	refuses(t, p, bytesOf(t, d), api.ErrSeat) // to another one
	d.To = 1
	refuses(t, p, bytesOf(t, d), api.ErrGap)
	d = turn(c, 0, 1, 1<<40, 3, 99, 1, 1, 1, 1)
	refuses(t, p, bytesOf(t, d), api.ErrBroken)
	// From the own seat, to it: the own parcels, which come back.
	for _, x := range ticks(t, p, 1) {
		refuses(t, p, x.Bytes, api.ErrSeat)
	}
	own := bytesOf(t, turn(c, 1, 0, 1, 9, 99))
	refuses(t, p, own, api.ErrSeat)
}

// TestP22_4Turns: what a Turn brings, and what it is answered.
func TestP22_4Turns(t *testing.T) {
	c := session(3, 0, 2, 5)
	p := busy(t, c) // seat 0: two came, mark 3, one of three acknowledged
	n := p.Counters()
	gets := func(d api.Datagram, answers ...api.Datagram) {
		t.Helper()
		is(t, takes(t, p, bytesOf(t, d), len(answers)), answers...)
		n.Got++
		n.Sent += len(answers)
		counts(t, p, n)
	}
	stands := func(s0, s2 api.LinkState, least int64) {
		t.Helper()
		if got := p.Links(); !slices.Equal(got, []api.LinkState{s0, {}, s2}) || p.Least() != least {
			t.Errorf("Links %v, Least %d, meant %v, %v, %d", got, p.Least(), s0, s2, least)
		}
	}
	s0, s2 := api.LinkState{Own: 3, Acked: 1, Next: 3, Mark: 3, Met: true}, api.LinkState{Own: 3, Next: 1}
	stands(s0, s2, 0)
	// Nothing new: a lesser mark, the same one, commands that are there, an old acknowledgement.
	gets(turn(c, 0, 1, 0, 1, 0))
	gets(turn(c, 0, 1, 3, 3, 1))
	gets(turn(c, 0, 1, 3, 1, 0, 2, 6))
	gets(turn(c, 0, 1, 2, 2, 1, 6))
	stands(s0, s2, 0)
	// A new mark alone.
	gets(turn(c, 0, 1, 4, 3, 1), ackOf(c, 1, 0, 2))
	s0.Mark = 4
	stands(s0, s2, 0)
	// Nothing of seat 2 but that it is there.
	gets(turn(c, 2, 1, 0, 1, 0))
	s2.Met = true
	stands(s0, s2, 0)
	gets(turn(c, 2, 1, 2, 1, 0), ackOf(c, 1, 2, 0))
	s2.Mark = 2
	stands(s0, s2, 2)
	// New commands alone, behind some that are there.
	gets(turn(c, 0, 1, 4, 1, 1, 2, 6, 6, 9), ackOf(c, 1, 0, 4))
	s0.Next = 5
	stands(s0, s2, 2)
	// A new acknowledgement alone.
	gets(turn(c, 0, 1, 4, 5, 2), ackOf(c, 1, 0, 4))
	s0.Acked = 2
	stands(s0, s2, 2)
	// All three.
	gets(turn(c, 0, 1, 8, 5, 3, 12), ackOf(c, 1, 0, 5))
	s0 = api.LinkState{Own: 3, Acked: 3, Next: 6, Mark: 8, Met: true}
	stands(s0, s2, 2)
	// Commands with a mark that is old.
	gets(turn(c, 2, 1, 1, 1, 0, 5, 6), ackOf(c, 1, 2, 2))
	s2.Next = 3
	stands(s0, s2, 2)
	holds(t, p, command(1, 1, 1, say(1)), command(2, 0, 1, steer(1)), command(4, 1, 2, say(2)), command(4, 1, 3, say(3)), command(5, 2, 1, steer(1)), command(6, 0, 2, steer(2)), command(6, 0, 3, steer(3)), command(6, 2, 2, steer(2)), command(9, 0, 4, steer(4)), command(12, 0, 5, steer(5)))
	at(t, p, 6, 4, 0)
	if p.Kept() != 10 {
		t.Errorf("%d are kept", p.Kept())
	}
}

// TestP22_4Acks are answered by nothing, whatever they bring.
func TestP22_4Acks(t *testing.T) {
	c := session(3, 0, 2, 5)
	p := busy(t, c)
	n, was := p.Counters(), p.Links()
	for _, x := range []struct{ from, ack, acked int }{{0, 0, 1}, {0, 1, 1}, {0, 2, 2}, {0, 1, 2}, {0, 3, 3}, {0, 3, 3}, {2, 0, 0}, {2, 3, 3}} {
		takes(t, p, bytesOf(t, ackOf(c, x.from, 1, x.ack)), 0)
		n.Got++
		counts(t, p, n)
		was[x.from].Acked, was[x.from].Met = x.acked, true
		if got := p.Links(); !slices.Equal(got, was) || p.Least() != 0 {
			t.Errorf("Ack %d of %d: %v, meant %v", x.ack, x.from, got, was)
		}
	}
}

// TestP22_4Again: the same bytes, once more and later on, bring nothing.
func TestP22_4Again(t *testing.T) {
	c := session(2, 0, 2, 5)
	p, q := made(t, c, 0), made(t, c, 1)
	var all [][]byte
	for i := range 20 {
		lays(t, q, leadOf(q)+1+int64(i%16), steer(i))
		b := ticks(t, q, 1)[0].Bytes
		takes(t, p, b, 1)
		all = append(all, b)
		ticks(t, p, 1)
		was, n := rest(p), p.Counters()
		for _, b := range all {
			takes(t, p, b, 0)
			n.Got++
		}
		if rest(p) != was {
			t.Fatalf("round %d: what has come already has changed something", i)
		}
		counts(t, p, n)
	}
	if !slices.Equal(p.Held(), q.Held()) || len(p.Held()) != 20 {
		t.Errorf("%v, meant %v", p.Held(), q.Held())
	}
}

// TestP22_4AnyOrder: three Turns, and an Ack, in each order: what is told in the end is the same but for what was sent.
func TestP22_4AnyOrder(t *testing.T) {
	c := session(2, 0, 2, 5)
	q := made(t, c, 1)
	var all [][]byte
	for i := range 3 {
		lays(t, q, leadOf(q)+2, steer(i))
		lays(t, q, leadOf(q)+16, say(i))
		all = append(all, ticks(t, q, 1+i)[0].Bytes)
	}
	all = append(all, bytesOf(t, ackOf(c, 1, 0, 1)))
	want := ""
	var each func(i int)
	each = func(i int) {
		if i < len(all) {
			for j := i; j < len(all); j++ {
				all[i], all[j] = all[j], all[i]
				each(i + 1)
				all[i], all[j] = all[j], all[i]
			}
			return
		}
		p := made(t, c, 0)
		lays(t, p, 2, say(9))
		ticks(t, p, 4)
		for _, b := range all {
			if _, e := p.Receive(b); e != api.OK {
				t.Fatalf("% x: %d", b, e)
			}
		}
		if want == "" {
			want = rest(p)
		}
		if rest(p) != want || p.Counters().Got != 4 || len(p.Held()) != 7 {
			t.Errorf("in another order: %s, meant %s", rest(p), want)
		}
	}
	each(0)
}

// TestP22_4OneByte: a datagram that is changed in one byte, to whatever, is refused, with what Decode says.
func TestP22_4OneByte(t *testing.T) {
	c := session(3, 0, 2, 5)
	p := busy(t, c)
	was, n := rest(p), p.Counters()
	for _, d := range []api.Datagram{turn(c, 0, 1, 5, 3, 2, 7, 7, 21), ackOf(c, 2, 1, 3)} {
		good := bytesOf(t, d)
		for i := range good {
			for change := 1; change < 256; change++ {
				b := bytes.Clone(good)
				b[i] ^= byte(change)
				_, want := wire.Decode(b)
				out, e := p.Receive(b)
				if want == api.OK || e != want || len(out) != 0 {
					t.Fatalf("% x: %v %d, meant %d", b, out, e, want)
				}
				n.Refused++
			}
		}
	}
	counts(t, p, n)
	if rest(p) != was {
		t.Error("what is refused has changed something")
	}
}

// TestP22_4RefusedLeavesNothing: a peer that refuses much in between goes on as another one that does not.
func TestP22_4RefusedLeavesNothing(t *testing.T) {
	c := session(3, 0, 2, 5)
	p, twin := busy(t, c), busy(t, c)
	bad := [][]byte{
		nil, make([]byte, 40), bytesOf(t, turn(c, 0, 2, 5, 1, 0)), bytesOf(t, turn(c, 0, 1, 30, 99, 2)),
		bytesOf(t, ackOf(c, 0, 1, 1000)), bytesOf(t, turn(c, 0, 1, 1<<40, 1, 3)), bytesOf(t, turn(c, 2, 1, 1<<40, 1, 3)),
		bytesOf(t, turn(c, 0, 1, 100, 1, 3, 2, 6, 110, 111, 112, 113, 114, 115)),
		bytesOf(t, turn(c, 2, 1, 5, 1, 3, 7, 8, 9, 10, 22)), raw(1, number(c), 0, 1, 5, 0, 0, 0),
	}
	for i := range 25 {
		for _, b := range bad {
			out, e := p.Receive(b)
			if e == api.OK || len(out) != 0 {
				t.Fatalf("round %d: % x is taken", i, b)
			}
		}
		for _, x := range []*peer.Peer{p, twin} {
			first := x.Links()[0].Next
			takes(t, x, bytesOf(t, turn(c, 0, 1, int64(6+i), first, 3, int64(7+i))), 1)
			takes(t, x, bytesOf(t, turn(c, 2, 1, int64(1+i), 1, 3)), 1)
			ticks(t, x, 1)
		}
		if rest(p) != rest(twin) {
			t.Fatalf("round %d: %s, meant %s", i, rest(p), rest(twin))
		}
	}
	n := twin.Counters()
	n.Refused = 25 * len(bad)
	counts(t, p, n)
}
