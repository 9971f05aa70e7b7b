package link_test

import (
	"math"
	"slices"
	"testing"

	"echelon/api"
	"echelon/link"
)

// unlike is a datagram of which something is another way.
func unlike(d api.Datagram, change func(d *api.Datagram)) api.Datagram {
	d.Commands = slices.Clone(d.Commands)
	change(&d)
	return d
}

// seats gives a datagram, and its commands, other ends.
func seats(d api.Datagram, from, to int) api.Datagram {
	return unlike(d, func(d *api.Datagram) {
		d.From, d.To = from, to
		for i := range d.Commands {
			d.Commands[i].Peer = from
		}
	})
}

// TestP18_4MayNotBe: what chapter 16 refuses, each part of it once.
func TestP18_4MayNotBe(t *testing.T) {
	l := made(t, 7, 0, 1)
	lays(t, l, 0, 0, 60, 61, 62)
	good := turn(5, 1, 1, 6, 7)
	for _, c := range []struct {
		name   string
		change func(d *api.Datagram)
	}{
		{"kind 0", func(d *api.Datagram) { d.Kind = 0 }},
		{"kind 3", func(d *api.Datagram) { d.Kind = 3 }},
		{"an Ack with commands", func(d *api.Datagram) { d.Kind = api.Ack }},
		{"an Ack with a mark", func(d *api.Datagram) { *d = ackOf(1); d.Mark = 5 }},
		{"an Ack with a first number", func(d *api.Datagram) { *d = ackOf(1); d.First = 1 }},
		{"from -1", func(d *api.Datagram) { *d = seats(*d, -1, 0) }},
		{"from 6", func(d *api.Datagram) { *d = seats(*d, 6, 0) }},
		{"to 6", func(d *api.Datagram) { d.To = 6 }},
		{"from self to self", func(d *api.Datagram) { *d = seats(*d, 0, 0) }},
		{"from other to other", func(d *api.Datagram) { d.To = 1 }},
		{"Ack -1", func(d *api.Datagram) { d.Ack = -1 }},
		{"Ack above MaxNo", func(d *api.Datagram) { d.Ack = 1<<40 + 1 }},
		{"an Ack of -1", func(d *api.Datagram) { *d = ackOf(-1) }},
		{"an Ack of the least", func(d *api.Datagram) { *d = ackOf(math.MinInt) }},
		{"an Ack of the most", func(d *api.Datagram) { *d = ackOf(math.MaxInt) }},
		{"Mark -1", func(d *api.Datagram) { d.Mark = -1 }},
		{"the least Mark", func(d *api.Datagram) { d.Mark = math.MinInt64 }},
		{"Mark above MaxFrame", func(d *api.Datagram) { d.Mark = lastOne + 1 }},
		{"First 0", func(d *api.Datagram) { *d = turn(5, 0, 1, 6, 7) }},
		{"First -1", func(d *api.Datagram) { *d = turn(5, -1, 1) }},
		{"the least First", func(d *api.Datagram) { *d = turn(5, math.MinInt, 1) }},
		{"another peer's command", func(d *api.Datagram) { d.Commands[1].Peer = 0 }},
		{"a number twice", func(d *api.Datagram) { d.Commands[1].Seq = 1 }},
		{"a number left out", func(d *api.Datagram) { d.Commands[1].Seq = 3 }},
		{"frame 0", func(d *api.Datagram) { d.Commands[0].Frame = 0 }},
		{"an order that may not be", func(d *api.Datagram) { d.Commands[0].Order = api.Order{Verb: api.Aim, A: 16} }},
		{"337 commands", func(d *api.Datagram) { *d = turn(5, 1, 1, slices.Repeat([]int64{6}, 337)...) }},
	} {
		noTake(t, c.name, l, unlike(good, c.change), 0, api.ErrWireData)
	}
	takes(t, "it is good without", l, good, 0, commands(1, 1, 6, 7), true)
	for _, c := range []api.Order{{}, {Verb: 8}, {Verb: api.Steer, B: 9}, {Verb: api.Halt, A: 1}, {Verb: api.Fire}, {Verb: api.Shield, A: 2}, {Verb: api.Dash, A: -1}, {Verb: api.Say, A: 256}, {Verb: api.Aim, B: 1}} {
		old := unlike(good, func(d *api.Datagram) { d.Commands[0].Order = c })
		noTake(t, "an order that may not be, of an old one", l, old, 0, api.ErrWireData)
	}
}

func TestP18_4Stranger(t *testing.T) {
	for _, session := range []uint64{0, 7, math.MaxUint64} {
		l := made(t, session, 0, 1)
		lays(t, l, 0, 0, 60)
		for _, other := range []uint64{0, 1, 6, 7, 8, 1<<32 + 7, 1<<63 + 7, math.MaxUint64 - 1, math.MaxUint64} {
			if other == session {
				continue
			}
			for _, d := range []api.Datagram{turn(5, 1, 0, 6), ackOf(1)} {
				d.Session = other
				noTake(t, "another session", l, d, 0, api.ErrStranger)
			}
		}
		d := turn(5, 1, 0, 6)
		d.Session = session
		takes(t, "its own session", l, d, 0, commands(1, 1, 6), true)
	}
}

// TestP18_4Seat: of all datagrams that may be, those from other to self alone.
func TestP18_4Seat(t *testing.T) {
	for self := range 6 {
		for other := range 6 {
			if self == other {
				continue
			}
			l := made(t, 7, self, other)
			lays(t, l, self, 0, 60)
			for from := range 6 {
				for to := range 6 {
					if from != to && (from != other || to != self) {
						noTake(t, "a Turn of others", l, seats(turn(5, 1, 0, 6), from, to), 0, api.ErrSeat)
						noTake(t, "an Ack of others", l, seats(ackOf(1), from, to), 0, api.ErrSeat)
					}
				}
			}
			takes(t, "from other to self", l, seats(turn(5, 1, 0, 6), other, self), 0, commands(other, 1, 6), true)
			takes(t, "an Ack from other to self", l, seats(ackOf(1), other, self), 0, nil, true)
		}
	}
}

func TestP18_4Gap(t *testing.T) {
	l := made(t, 7, 0, 1)
	for next := 1; next < 6; next++ {
		f := int64(next)
		for _, first := range []int{next + 1, next + 2, 1 << 32, 1<<40 - 1, 1 << 40} {
			noTake(t, "nothing behind a gap", l, turn(0, first, 0), 0, api.ErrGap)
			noTake(t, "a command behind a gap", l, turn(0, first, 0, 9), 0, api.ErrGap)
			noTake(t, "a mark behind a gap", l, turn(f, first, 0), 0, api.ErrGap)
		}
		for first := 1; first <= next; first++ {
			takes(t, "no gap, and nothing new", l, turn(0, first, 0), 0, nil, false)
		}
		takes(t, "the next one", l, turn(0, next, 0, f), 0, commands(1, next, f), true)
		stands(t, l, api.LinkState{Next: next + 1, Met: true})
	}
}

// TestP18_4AckAboveOwn: of a Turn and of an Ack, with none, some and all acknowledged.
func TestP18_4AckAboveOwn(t *testing.T) {
	l := made(t, 7, 0, 1)
	for own := range 5 {
		for _, n := range []int{own + 1, own + 2, 1 << 32, 1 << 40} {
			noTake(t, "an Ack above own", l, ackOf(n), 0, api.ErrBroken)
			noTake(t, "a Turn whose Ack is above own", l, turn(1, 1, n, 2), 0, api.ErrBroken)
		}
		takes(t, "an Ack of own", l, ackOf(own), 0, nil, own > 0)
		takes(t, "a Turn with the Ack own", l, turn(0, 1, own), 0, nil, false)
		stands(t, l, api.LinkState{Own: own, Acked: own, Next: 1, Met: true})
		lays(t, l, 0, own, 5)
		noTake(t, "one above own, one unacknowledged", l, ackOf(own+2), 0, api.ErrBroken)
	}
}

// TestP18_4MarkAheadOfLead: the sums are true ones, whatever lead is; an Ack hangs on no lead.
func TestP18_4MarkAheadOfLead(t *testing.T) {
	marks := []int64{0, 1, 2, span - 1, span, span + 1, 2 * span, 1 << 32, lastOne - span - 1, lastOne - span, lastOne - span + 1, lastOne - 1, lastOne}
	leads := slices.Clone(edges)
	for _, m := range marks {
		leads = append(leads, m-span-2, m-span-1, m-span, m-span+1)
	}
	for _, lead := range leads {
		for _, mark := range marks {
			l := made(t, 7, 0, 1)
			// Where lead is as great, no mark is above it; else nothing runs over.
			is := lead < lastOne && mark > lead+span
			if lead < -lastOne {
				is = true
			}
			if is {
				noTake(t, "a mark too far ahead", l, turn(mark, 1, 0), lead, api.ErrBroken)
			} else {
				takes(t, "a mark", l, turn(mark, 1, 0), lead, nil, mark > 0)
			}
			lays(t, l, 0, 0, 9)
			takes(t, "an Ack", l, ackOf(1), lead, nil, true)
		}
	}
	l := made(t, 7, 0, 1)
	takes(t, "at -48", l, turn(0, 1, 0), -48, nil, false)
	noTake(t, "at -48", l, turn(1, 1, 0), -48, api.ErrBroken)
	noTake(t, "at -49", l, turn(0, 1, 0), -49, api.ErrBroken)
	noTake(t, "at the least", l, turn(0, 1, 0), math.MinInt64, api.ErrBroken)
	takes(t, "at the most", l, turn(lastOne, 1, 0), math.MaxInt64, nil, true)
	noTake(t, "an old mark, and a lead that fell", l, turn(49, 1, 0), 0, api.ErrBroken)
}

// TestP18_4OwnLeftBehind: own commands on these frames, so many of them acknowledged ahead; a Turn with this mark and acknowledgement.
func TestP18_4OwnLeftBehind(t *testing.T) {
	for _, c := range []struct {
		name   string
		frames []int64
		acked  int
		mark   int64
		ack    int
		is     bool
	}{
		{"one above it", []int64{10}, 0, 57, 0, false},
		{"just at it", []int64{10}, 0, 58, 0, true},
		{"below it", []int64{10}, 0, 70, 0, true},
		{"just at it, reached", []int64{10}, 0, 58, 1, false},
		{"just at it, reached ahead", []int64{10}, 1, 58, 0, false},
		{"just at it, reached twice", []int64{10}, 1, 58, 1, false},
		{"frame 1, one above it", []int64{1}, 0, 48, 0, false},
		{"frame 1, just at it", []int64{1}, 0, 49, 0, true},
		{"none of own", nil, 0, lastOne, 0, false},
		{"the last frame", []int64{lastOne}, 0, lastOne, 0, false},
		{"just at the last one's", []int64{lastOne - 48}, 0, lastOne, 0, true},
		{"one above the last one's", []int64{lastOne - 47}, 0, lastOne, 0, false},
		{"the second of three", []int64{90, 10, 90}, 0, 58, 0, true},
		{"the second of three, the first one reached", []int64{90, 10, 90}, 0, 58, 1, true},
		{"the second of three, reached", []int64{90, 10, 90}, 0, 58, 2, false},
		{"the second of three, all reached", []int64{90, 10, 90}, 0, 58, 3, false},
		{"the second of three, reached ahead", []int64{90, 10, 90}, 2, 58, 0, false},
		{"the second of three, the first one reached ahead", []int64{90, 10, 90}, 1, 58, 0, true},
		{"the last of three", []int64{90, 90, 10}, 0, 58, 2, true},
		{"the last of three, reached", []int64{90, 90, 10}, 0, 58, 3, false},
		{"the last of three, two reached ahead", []int64{90, 90, 10}, 2, 58, 1, true},
		{"all three, two reached", []int64{10, 10, 11}, 0, 58, 2, false},
		{"all three, one reached", []int64{10, 10, 11}, 0, 58, 1, true},
	} {
		l := made(t, 7, 0, 1)
		lays(t, l, 0, 0, c.frames...)
		takes(t, c.name, l, ackOf(c.acked), 0, nil, c.acked > 0)
		d := turn(c.mark, 1, c.ack)
		if c.is {
			noTake(t, c.name, l, d, lastOne, api.ErrBroken)
		} else {
			takes(t, c.name, l, d, lastOne, nil, true)
		}
		takes(t, c.name+", an Ack", l, ackOf(len(c.frames)), 0, nil, l.State().Acked < len(c.frames))
		takes(t, c.name+", none waits", l, d, lastOne, nil, c.is)
	}
}

// TestP18_4FrameOfNew: a link with this mark; a Turn with this one brings a command on this frame.
func TestP18_4FrameOfNew(t *testing.T) {
	for _, c := range []struct {
		name   string
		marked int64
		mark   int64
		frame  int64
		is     bool
	}{
		{"just at the link's mark", 30, 30, 30, true},
		{"below it", 30, 30, 29, true},
		{"frame 1", 30, 30, 1, true},
		{"one above it", 30, 30, 31, false},
		{"just at it, and a greater one", 30, 40, 30, true},
		{"one above it, and a greater one", 30, 40, 31, false},
		{"just at the greater one", 30, 40, 40, false},
		{"just at it, and a lower one", 30, 20, 30, true},
		{"one above it, and a lower one", 30, 20, 31, false},
		{"above the lower one", 30, 20, 25, true},
		{"just at Mark and 16", 30, 30, 46, false},
		{"one above that", 30, 30, 47, true},
		{"just at the greater Mark and 16", 30, 40, 56, false},
		{"one above that, too", 30, 40, 57, true},
		{"just at the lower Mark and 16", 30, 20, 36, false},
		{"one above the lower one and 16", 30, 20, 37, true},
		{"the link's mark and 16, by a lower one", 30, 20, 46, true},
		{"just at a Mark much lower, and 16", 30, 14, 30, true},
		{"one above that, and the mark", 30, 15, 31, false},
		{"one above both", 30, 14, 31, true},
		{"frame 1 of a new link", 0, 0, 1, false},
		{"frame 16", 0, 0, 16, false},
		{"frame 17", 0, 0, 17, true},
		{"frame 17, Mark 1", 0, 1, 17, false},
		{"the last frame", 0, lastOne, lastOne, false},
		{"the last frame, 16 ahead", 0, lastOne - 16, lastOne, false},
		{"the last frame, 17 ahead", 0, lastOne - 17, lastOne, true},
		{"the last frame, just at the mark", lastOne, lastOne, lastOne, true},
		{"the last frame, one above the mark", lastOne - 1, lastOne, lastOne, false},
	} {
		for _, ahead := range []bool{false, true} { // one that stands well ahead of it is no help
			l := made(t, 7, 0, 1)
			takes(t, c.name, l, turn(c.marked, 1, 0), lastOne, nil, c.marked > 0)
			frames := []int64{c.frame}
			if good := max(c.marked+1, c.mark); ahead && good != c.frame && good <= c.mark+stamp && good <= lastOne {
				frames = []int64{good, c.frame}
			}
			d := turn(c.mark, 1, 0, frames...)
			if c.is {
				noTake(t, c.name, l, d, lastOne, api.ErrBroken)
			} else {
				takes(t, c.name, l, d, lastOne, d.Commands, true)
			}
		}
	}
}

// TestP18_4FourthInOne: the third on a frame may be, the fourth not; wherever in a datagram they stand.
func TestP18_4FourthInOne(t *testing.T) {
	for _, c := range []struct {
		name   string
		frames []int64
		is     bool
	}{
		{"three", []int64{5, 5, 5}, false},
		{"four", []int64{5, 5, 5, 5}, true},
		{"three and three", []int64{5, 6, 5, 6, 5, 6}, false},
		{"three and four", []int64{5, 6, 5, 6, 5, 6, 6}, true},
		{"four, apart", []int64{5, 1, 5, 2, 5, 3, 5}, true},
		{"four in the midst", []int64{5, 5, 5, 5, 9}, true},
		{"three on each of 16", []int64{1, 2, 3, 4, 5, 6, 7, 8, 9, 10, 11, 12, 13, 14, 15, 16, 16, 15, 14, 13, 12, 11, 10, 9, 8, 7, 6, 5, 4, 3, 2, 1, 1, 2, 3, 4, 5, 6, 7, 8, 9, 10, 11, 12, 13, 14, 15, 16}, false},
	} {
		for _, mark := range []int64{0, 3, 5, 9} { // the Turn's own mark is no matter, where frames are up to it
			l := made(t, 7, 0, 1)
			d := turn(mark, 1, 0, c.frames...)
			if c.is {
				noTake(t, c.name, l, d, 0, api.ErrBroken)
			} else {
				takes(t, c.name, l, d, 0, d.Commands, true)
			}
		}
	}
}

// TestP18_4FourthOverSeveral: what came ahead counts, whatever the mark did meanwhile; what is old counts once.
func TestP18_4FourthOverSeveral(t *testing.T) {
	for _, marks := range [][]int64{{4, 4, 4, 4}, {4, 5, 10, 19}, {10, 19, 19, 19}, {19, 4, 19, 4}, {4, 19, 18, 17}} {
		for _, first := range []int{0, 1} { // all of them again, or the new one alone; a mark of 4 reaches frame 20
			l := made(t, 7, 0, 1)
			frames := []int64{20, 20, 20, 20}
			for i, mark := range marks {
				d := turn(mark, 1, 0, frames[:i+1]...)
				if first == 1 {
					d = turn(mark, i+1, 0, 20)
				}
				if i == 3 {
					noTake(t, "the fourth", l, d, 0, api.ErrBroken)
				} else {
					takes(t, "up to the third", l, d, 0, commands(1, i+1, 20), true)
				}
			}
			d := turn(19, 4, 0, 21, 20)
			noTake(t, "the fourth, behind another one", l, d, 0, api.ErrBroken)
			takes(t, "the other one", l, turn(19, 4, 0, 21), 0, commands(1, 4, 21), true)
			noTake(t, "the fourth still", l, turn(19, 5, 0, 20), 0, api.ErrBroken)
			noTake(t, "and with a greater mark", l, turn(30, 5, 0, 20), 0, api.ErrBroken)
			takes(t, "three on the other one", l, turn(19, 1, 0, 20, 20, 20, 21, 21, 21), 0, commands(1, 5, 21, 21), true)
			noTake(t, "its fourth", l, turn(19, 7, 0, 21), 0, api.ErrBroken)
		}
	}
}

// TestP18_4CountsOfTheRefused: new commands of a datagram that was refused do not count.
func TestP18_4CountsOfTheRefused(t *testing.T) {
	l := made(t, 7, 0, 1)
	takes(t, "one on 5", l, turn(0, 1, 0, 5), 0, commands(1, 1, 5), true)
	for range 4 {
		noTake(t, "one above 16", l, turn(0, 2, 0, 5, 5, 17), 0, api.ErrBroken)
		noTake(t, "a fourth", l, turn(0, 2, 0, 6, 6, 5, 5, 5), 0, api.ErrBroken)
		noTake(t, "an Ack above own", l, turn(0, 2, 1, 5, 5), 0, api.ErrBroken)
		noTake(t, "too great a mark", l, turn(49, 2, 0, 5, 5), 0, api.ErrBroken)
		noTake(t, "another seat", l, seats(turn(0, 2, 0, 5, 5), 2, 0), 0, api.ErrSeat)
	}
	takes(t, "three on 5 and on 6", l, turn(0, 2, 0, 5, 5, 6, 6, 6), 0, commands(1, 2, 5, 5, 6, 6, 6), true)
	noTake(t, "a fourth on 5", l, turn(0, 7, 0, 5), 0, api.ErrBroken)
	noTake(t, "a fourth on 6", l, turn(0, 7, 0, 6), 0, api.ErrBroken)
}

// TestP18_4OldIsNoGround: commands that came already may stand on any frame, as often as they like; they are passed over.
func TestP18_4OldIsNoGround(t *testing.T) {
	l := made(t, 7, 0, 1)
	takes(t, "five", l, turn(10, 1, 0, 11, 12, 13, 14, 15), 0, commands(1, 1, 11, 12, 13, 14, 15), true)
	for _, frames := range [][]int64{
		{1, 1, 1, 1, 1},                   // not above the mark, and five on a frame
		{100, 100, 100, 100, 100},         // above Mark and 16
		{lastOne, 1, lastOne, 1, lastOne}, // both
		{11, 11, 11, 11, 11},              // five on a frame on which one has come
		{11}, {11, 12}, {11, 12, 13, 14},  // not all of them
	} {
		takes(t, "old ones", l, turn(10, 1, 0, frames...), 0, nil, false)
		stands(t, l, api.LinkState{Next: 6, Mark: 10, Met: true})
	}
	takes(t, "old ones of another look, and two on 11", l, turn(10, 2, 0, 11, 11, 1, 99, 11, 11), 0, commands(1, 6, 11, 11), true)
	noTake(t, "a fourth on 11", l, turn(10, 8, 0, 11), 0, api.ErrBroken)
	noTake(t, "a fourth on 11, behind old ones", l, turn(10, 6, 0, 1, 1, 11), 0, api.ErrBroken)
	takes(t, "three on 99 would be too far, old ones are not", l, turn(10, 5, 0, 99, 99, 99, 26), 0, commands(1, 8, 26), true)
	stands(t, l, api.LinkState{Next: 9, Mark: 10, Met: true})
}

// TestP18_4Order: whichever faults a datagram has, the first one is told.
func TestP18_4Order(t *testing.T) {
	faults := []struct {
		errno  api.Errno
		change func(d *api.Datagram)
	}{
		{api.ErrWireData, func(d *api.Datagram) { d.Commands[0].Order = api.Order{Verb: 9} }},
		{api.ErrStranger, func(d *api.Datagram) { d.Session = 8 }},
		{api.ErrSeat, func(d *api.Datagram) { *d = seats(*d, 2, 0) }},
		{api.ErrGap, func(d *api.Datagram) {
			d.First++
			for i := range d.Commands {
				d.Commands[i].Seq++
			}
		}},
		{api.ErrBroken, func(d *api.Datagram) { d.Ack = 3 }},
		{api.ErrBroken, func(d *api.Datagram) { d.Mark = 60 }},              // above lead and 48, and own commands are left behind
		{api.ErrBroken, func(d *api.Datagram) { d.Commands[1].Frame = 4 }},  // not above the mark
		{api.ErrBroken, func(d *api.Datagram) { d.Commands[1].Frame = 90 }}, // too far
	}
	l := made(t, 7, 0, 1)
	lays(t, l, 0, 0, 12, 12)
	takes(t, "a mark", l, turn(4, 1, 0), 0, nil, true)
	for which := 1; which < 1<<len(faults); which++ {
		d, want := turn(6, 1, 0, 7, 7, 8), api.OK
		for i := len(faults) - 1; i >= 0; i-- {
			if which>>i&1 == 1 {
				d = unlike(d, faults[i].change)
				want = faults[i].errno
			}
		}
		noTake(t, "with faults", l, d, 0, want)
	}
	takes(t, "without", l, turn(6, 1, 0, 7, 7, 8), 0, commands(1, 1, 7, 7, 8), true)
}

// TestP18_5Brought: each of the three alone, and every choice of them.
func TestP18_5Brought(t *testing.T) {
	for which := range 8 {
		l := made(t, 7, 0, 1)
		lays(t, l, 0, 0, 20, 20, 20)
		takes(t, "ahead", l, turn(5, 1, 1, 6, 7), 0, commands(1, 1, 6, 7), true)
		d, s := turn(5, 2, 1, 7), l.State()
		var fresh []api.Command
		if which&1 != 0 {
			d.Commands = commands(1, 2, 7, 9, 8)
			fresh, s.Next = commands(1, 3, 9, 8), 5
		}
		if which&2 != 0 {
			d.Mark, s.Mark = 6, 6
		}
		if which&4 != 0 {
			d.Ack, s.Acked = 2, 2
		}
		takes(t, "any of the three", l, d, 0, fresh, which != 0)
		stands(t, l, s)
		takes(t, "once more", l, d, 0, nil, false)
		stands(t, l, s)
	}
}

// TestP18_5NeverFalls: marks and acknowledgements of what comes late.
func TestP18_5NeverFalls(t *testing.T) {
	l := made(t, 7, 0, 1)
	lays(t, l, 0, 0, 70, 70, 70, 70)
	takes(t, "the last one", l, turn(40, 1, 3, 41), 0, commands(1, 1, 41), true)
	for mark := int64(0); mark <= 40; mark++ {
		for n := 0; n <= 3; n++ {
			takes(t, "an old Turn", l, turn(mark, 1, n), 0, nil, false)
			takes(t, "an old Ack", l, ackOf(n), 0, nil, false)
		}
	}
	stands(t, l, api.LinkState{Own: 4, Acked: 3, Next: 2, Mark: 40, Met: true})
	if d := l.Turn(0); d.First != 4 || !slices.Equal(d.Commands, commands(0, 4, 70)) || d.Ack != 1 {
		t.Errorf("Turn: %+v", d)
	}
	takes(t, "an old mark with something new", l, turn(30, 2, 2, 42), 0, commands(1, 2, 42), true)
	stands(t, l, api.LinkState{Own: 4, Acked: 3, Next: 3, Mark: 40, Met: true})
	takes(t, "old ones with a greater acknowledgement", l, turn(0, 1, 4, 41), 0, nil, true)
	stands(t, l, api.LinkState{Own: 4, Acked: 4, Next: 3, Mark: 40, Met: true})
}

// TestP18_5Acknowledged: every number that may be acknowledged, of every link with up to seven of own, ahead of some more that are laid.
func TestP18_5Acknowledged(t *testing.T) {
	for own := range 8 {
		for first := range own + 1 {
			for second := range own + 1 {
				l := made(t, 7, 0, 1)
				var frames []int64
				for i := range own {
					frames = append(frames, int64(100+i))
				}
				lays(t, l, 0, 0, frames...)
				takes(t, "the first one", l, ackOf(first), 0, nil, first > 0)
				takes(t, "the second one", l, turn(0, 1, second), 0, nil, second > first)
				acked := max(first, second)
				stands(t, l, api.LinkState{Own: own, Acked: acked, Next: 1, Met: true})
				lays(t, l, 0, own, 500, 501)
				want := commands(0, acked+1, append(frames[acked:], 500, 501)...)
				if d := l.Turn(0); d.First != acked+1 || !slices.Equal(d.Commands, want) {
					t.Errorf("%d of own, %d and %d acknowledged: %+v", own, first, second, d)
				}
			}
		}
	}
}

// TestP18_5PartlyNew: a Turn from each number on, of each length: what has not come yet comes, in order.
func TestP18_5PartlyNew(t *testing.T) {
	all := []int64{1, 2, 3, 4, 5, 6, 7, 8, 9}
	for came := range len(all) + 1 {
		for first := 1; first <= came+1; first++ {
			for end := first - 1; end <= len(all); end++ {
				l := made(t, 7, 0, 1)
				takes(t, "some", l, turn(0, 1, 0, all[:came]...), 0, commands(1, 1, all[:came]...), came > 0)
				var fresh []api.Command
				if end > came {
					fresh = commands(1, came+1, all[came:end]...)
				}
				takes(t, "some of them again", l, turn(0, first, 0, all[first-1:end]...), 0, fresh, end > came)
				stands(t, l, api.LinkState{Next: max(came, end) + 1, Met: true})
			}
		}
	}
}

// TestP18_5Full: 336 new ones in one Turn, over 112 frames.
func TestP18_5Full(t *testing.T) {
	a, b := made(t, 7, 1, 0), made(t, 7, 0, 1)
	var all []int64
	for f := int64(1); f <= 112; f++ {
		all = append(all, f, f, f)
	}
	lays(t, a, 1, 0, all...)
	d := a.Turn(96)
	noTake(t, "too far ahead", b, a.Turn(95), 100, api.ErrBroken)
	takes(t, "all at once", b, d, 100, commands(1, 1, all...), true)
	stands(t, b, api.LinkState{Next: 337, Mark: 96, Met: true})
	takes(t, "all acknowledged", a, b.Ack(), 0, nil, true)
	stands(t, a, api.LinkState{Own: 336, Acked: 336, Next: 1, Met: true})
	for f := int64(97); f <= 112; f++ {
		noTake(t, "a fourth", b, turn(96, 337, 0, f), 100, api.ErrBroken)
	}
	takes(t, "the next frame", b, turn(97, 337, 0, 113), 100, commands(1, 337, 113), true)
}

// TestP18_4NilAndEmpty: no commands are no commands, nil or not.
func TestP18_4NilAndEmpty(t *testing.T) {
	for _, none := range [][]api.Command{nil, {}, make([]api.Command, 0, 4), commands(1, 1, 2)[:0]} {
		l := made(t, 7, 0, 1)
		lays(t, l, 0, 0, 5)
		d := turn(1, 1, 0)
		d.Commands = none
		takes(t, "a Turn without commands", l, d, 0, nil, true)
		d = ackOf(1)
		d.Commands = none
		takes(t, "an Ack without commands", l, d, 0, nil, true)
	}
}

// TestP18_4ManyLinks: what one link refuses, another one takes; neither minds.
func TestP18_4ManyLinks(t *testing.T) {
	links := []*link.Link{made(t, 7, 0, 1), made(t, 7, 0, 2), made(t, 8, 0, 1), made(t, 7, 1, 0)}
	d := turn(3, 1, 0, 4)
	takes(t, "its own", links[0], d, 0, d.Commands, true)
	noTake(t, "another peer's", links[1], d, 0, api.ErrSeat)
	noTake(t, "another session's", links[2], d, 0, api.ErrStranger)
	noTake(t, "the sender's", links[3], d, 0, api.ErrSeat)
	stands(t, links[0], api.LinkState{Next: 2, Mark: 3, Met: true})
	for _, l := range links[1:] {
		stands(t, l, api.LinkState{Next: 1})
	}
}
