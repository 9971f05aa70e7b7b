package mesh_test

import (
	"fmt"
	"slices"
	"testing"

	"echelon/api"
	"echelon/mesh"
	"echelon/peer"
	"echelon/wire"
)

// notSeats are numbers that are no seat among so many peers.
func notSeats(peers int) []int { return append([]int{peers, peers + 1, 7}, farInts...) }

// TestP24_2NoSuchPeer: of a seat that there is not, whatever else is handed in.
func TestP24_2NoSuchPeer(t *testing.T) {
	for _, peers := range []int{2, 3, 6} {
		m := made(t, session(peers, 0, 2))
		answers(t, m.Command(0, say(1), 3), api.OK)
		ticks(t, m, peers-1, 2)
		for _, p := range notSeats(peers) {
			if m.Peer(p) != nil {
				t.Errorf("%d peers: Peer(%d) is one", peers, p)
			}
			refused(t, m, fmt.Sprint("Tick ", p), api.ErrMeshPeer, func() api.Errno { return m.Tick(p) })
			for _, o := range append([]api.Order{say(1)}, badOrders...) {
				for _, frame := range []int64{1, 3, 0, 99} {
					refused(t, m, fmt.Sprint("Command ", p, o, frame), api.ErrMeshPeer, func() api.Errno { return m.Command(p, o, frame) })
				}
			}
		}
		for p := range peers {
			answers(t, m.Command(p, say(2), 4), api.OK)
			answers(t, m.Tick(p), api.OK)
		}
	}
}

// TestP24_2Refused: what a peer's Command refuses, each error of it, is not laid.
func TestP24_2Refused(t *testing.T) {
	m := made(t, session(3, 0, 2))
	for p := range 3 {
		ticks(t, m, p, 4+p)
		lead := leadOf(m.Peer(p))
		for i := range 3 {
			answers(t, m.Command(p, say(i), lead+5), api.OK)
		}
	}
	for p := range 3 {
		lead := leadOf(m.Peer(p))
		seen := map[api.Errno]int{}
		try := func(o api.Order, frame int64) {
			t.Helper()
			twin, _ := peer.New(session(3, 0, 2), p)
			for range lead {
				twin.Tick()
			}
			for i := range 3 {
				twin.Command(say(i), lead+5)
			}
			want := twin.Command(o, frame)
			seen[want]++
			refused(t, m, fmt.Sprint("Command ", p, o, frame), want, func() api.Errno { return m.Command(p, o, frame) })
		}
		for _, o := range badOrders {
			try(o, lead+1)
			try(o, lead+5)
			try(o, lead)
		}
		for _, frame := range append([]int64{lead - 1, lead, lead + 17, lead + 18}, farFrames...) {
			try(say(4), frame)
		}
		try(say(4), lead+5)
		try(steer(4), lead+5)
		for _, e := range []api.Errno{api.ErrVerbNone, api.ErrVerbOperand, api.ErrStamp, api.ErrFull} {
			if seen[e] == 0 {
				t.Errorf("%d was never answered", e)
			}
		}
		if seen[api.OK] > 0 {
			t.Error("something was laid")
		}
	}
}

// TestP24_2Laid: the command that was laid, with its number, is the last one of the Table, and its peer alone has it.
func TestP24_2Laid(t *testing.T) {
	m := made(t, session(4, 0, 2))
	var want []api.Command
	var own [4][]api.Command
	for i, x := range []struct {
		p     int
		frame int64
	}{{2, 9}, {0, 1}, {2, 1}, {3, 16}, {0, 16}, {2, 9}, {2, 9}, {0, 1}, {3, 2}} {
		o := steer(i)
		answers(t, m.Command(x.p, o, x.frame), api.OK)
		c := command(x.frame, x.p, len(own[x.p])+1, o)
		own[x.p] = append(own[x.p], c)
		want = append(want, c)
		tabled(t, m, want...)
		refused(t, m, "Command on a frame too far", api.ErrStamp, func() api.Errno { return m.Command(x.p, o, 17) })
		for p := range 4 {
			if got := m.Peer(p).Held(); len(got) != len(own[p]) || len(without(got, own[p])) > 0 {
				t.Fatalf("%d holds %v, meant %v", p, got, own[p])
			}
		}
	}
	refused(t, m, "a fourth on a frame", api.ErrFull, func() api.Errno { return m.Command(2, say(1), 9) })
	flies(t, m)
	answers(t, m.Quiet(30), api.OK)
	tabled(t, m, want...)
	for p := range 4 {
		if got := m.Peer(p).Held(); len(got) != len(want) || len(without(want, got)) > 0 {
			t.Errorf("%d holds %v", p, got)
		}
	}
}

// TestP24_2EdgesOfLaying: on the first and on the last frame on which a command may be laid, at the beginning, later, and where the leading copy stays.
func TestP24_2EdgesOfLaying(t *testing.T) {
	for _, lead := range []int64{0, 1, 20, 48} {
		m := made(t, session(2, 0, 2))
		ticks(t, m, 1, int(lead))
		if lead == 48 {
			answers(t, m.Tick(1), api.ErrStall)
		}
		answers(t, m.Command(1, say(1), lead), api.ErrStamp)
		answers(t, m.Command(1, say(1), lead+1), api.OK)
		answers(t, m.Command(1, say(2), lead+16), api.OK)
		answers(t, m.Command(1, say(3), lead+17), api.ErrStamp)
		tabled(t, m, command(lead+1, 1, 1, say(1)), command(lead+16, 1, 2, say(2)))
	}
}

// TestP24_2PastTheMesh: the Table has what was laid by the mesh's Command, under the number that its peer has given.
func TestP24_2PastTheMesh(t *testing.T) {
	m := made(t, session(2, 0, 2))
	answers(t, m.Command(0, say(1), 1), api.OK)
	answers(t, m.Peer(0).Command(say(2), 1), api.OK)
	answers(t, m.Command(0, say(3), 1), api.OK)
	answers(t, m.Command(1, say(4), 1), api.OK)
	answers(t, m.Command(0, say(5), 1), api.ErrFull)
	tabled(t, m, command(1, 0, 1, say(1)), command(1, 0, 3, say(3)), command(1, 1, 1, say(4)))
	holds(t, m, 0, command(1, 0, 1, say(1)), command(1, 0, 2, say(2)), command(1, 0, 3, say(3)))
}

// TestP24_2Tick: the parcels of the peer that ticks are sent, by the other seats; no other peer ticks.
func TestP24_2Tick(t *testing.T) {
	for _, peers := range []int{2, 3, 6} {
		c := session(peers, 0, 2)
		m := made(t, c)
		var want []string
		lead := make([]int64, peers)
		for i := range 3 * peers {
			p := (i*5 + i/peers) % peers
			if i == 2 {
				answers(t, m.Command(p, say(7), lead[p]+3), api.OK)
			}
			answers(t, m.Tick(p), api.OK)
			lead[p]++
			for to := range peers {
				if to != p {
					want = append(want, fmt.Sprintf("%d:%d>%d", len(want)+1, p, to))
				}
			}
			flies(t, m, want...)
			for seat := range peers {
				if got := m.Peer(seat).Counters(); leadOf(m.Peer(seat)) != lead[seat] || got.Ticks != int(lead[seat]) || got.Sent != int(lead[seat])*(peers-1) {
					t.Fatalf("seat %d is at %d, %+v", seat, leadOf(m.Peer(seat)), got)
				}
			}
			for _, d := range opened(t, m) {
				if d.Kind != api.Turn || d.Session != number(c) || d.Mark < 1 || d.Mark > lead[d.From] {
					t.Fatalf("%+v", d)
				}
			}
		}
	}
}

// TestP24_2Stall: a Tick that stalls says so, and its parcels are sent all the same, in order.
func TestP24_2Stall(t *testing.T) {
	for _, peers := range []int{2, 6} {
		m := made(t, session(peers, 0, 2, 5))
		ticks(t, m, 1, 48)
		if n := len(m.Flight()); n != 48*(peers-1) {
			t.Fatalf("%d parcels", n)
		}
		for range 3 {
			for _, p := range m.Flight() {
				answers(t, m.Drop(p.No), api.OK)
			}
			n := m.Peer(1).Counters()
			answers(t, m.Tick(1), api.ErrStall)
			at(t, m, 1, 48, 46, 0)
			l := m.Flight()
			if len(l) != peers-1 {
				t.Fatalf("%d parcels", len(l))
			}
			for i, p := range l {
				to := []int{0, 2, 3, 4, 5}[i]
				if d := opened(t, m)[p.No]; p.No != n.Sent+i+1 || p.From != 1 || p.To != to || d.Mark != 48 {
					t.Errorf("parcel %d of %d from %d to %d: %+v", i, p.No, p.From, p.To, d)
				}
			}
			n.Ticks, n.Stalls, n.Sent = n.Ticks+1, n.Stalls+1, n.Sent+peers-1
			counts(t, m, 1, n)
		}
	}
}

// noParcels are numbers of none: those that never were, 0, and those below it.
func noParcels(given int) []int {
	return append([]int{0, given + 1, given + 2, given + 100}, farInts...)
}

// TestP24_3None: Deliver, Drop and Double of what is not on its way: that was delivered, that was dropped, that never was.
func TestP24_3None(t *testing.T) {
	c := session(2, 0, 2)
	m := made(t, c)
	none := func(numbers ...int) {
		t.Helper()
		for _, no := range numbers {
			refused(t, m, fmt.Sprint("Deliver ", no), api.ErrBagNone, func() api.Errno { return m.Deliver(no) })
			refused(t, m, fmt.Sprint("Drop ", no), api.ErrBagNone, func() api.Errno { return m.Drop(no) })
			refused(t, m, fmt.Sprint("Double ", no), api.ErrBagNone, func() api.Errno { return m.Double(no) })
		}
	}
	none(noParcels(0)...)
	ticks(t, m, 0, 4)
	none(noParcels(4)...)
	answers(t, m.Deliver(2), api.OK) // and 5, an Ack
	answers(t, m.Drop(3), api.OK)
	answers(t, m.Double(1), api.OK)
	flies(t, m, "1:0>1", "4:0>1", "5:1>0", "6:0>1")
	none(append([]int{2, 3}, noParcels(6)...)...)
	answers(t, m.Deliver(1), api.OK)
	answers(t, m.Deliver(6), api.OK)
	answers(t, m.Drop(5), api.OK)
	none(append([]int{1, 2, 3, 5, 6}, noParcels(6)...)...)
	flies(t, m, "4:0>1")
	answers(t, m.Quiet(1), api.OK)
	none(append([]int{1, 2, 3, 4, 5, 6, 7, 8, 9}, noParcels(9)...)...)
	ticks(t, m, 1, 1)
	l := m.Flight()
	if len(l) != 1 || l[0].No < 10 {
		t.Fatalf("%v", l)
	}
	none(noParcels(l[0].No)...)
}

// TestP24_3Deliver: the peer that a parcel is for receives its bytes, and no other one; what it answers is sent.
func TestP24_3Deliver(t *testing.T) {
	c := session(4, 0, 2)
	m := made(t, c)
	answers(t, m.Command(2, say(1), 2), api.OK)
	ticks(t, m, 2, 1)
	flies(t, m, "1:2>0", "2:2>1", "3:2>3")
	answers(t, m.Deliver(2), api.OK)
	flies(t, m, "1:2>0", "3:2>3", "4:1>2")
	if d := opened(t, m)[4]; d.Kind != api.Ack || d.Ack != 1 || d.Session != number(c) {
		t.Errorf("%+v", d)
	}
	holds(t, m, 1, command(2, 2, 1, say(1)))
	holds(t, m, 0)
	holds(t, m, 3)
	counts(t, m, 0, api.Counters{})
	counts(t, m, 1, api.Counters{Got: 1, Sent: 1})
	counts(t, m, 2, api.Counters{Ticks: 1, Steps: 1, Sent: 3, Accepted: 1})
	answers(t, m.Deliver(4), api.OK)
	flies(t, m, "1:2>0", "3:2>3")
	counts(t, m, 2, api.Counters{Ticks: 1, Steps: 1, Sent: 3, Accepted: 1, Got: 1})
	linked(t, m, 2, 1, api.LinkState{Own: 1, Acked: 1, Next: 1, Met: true})
	linked(t, m, 2, 0, api.LinkState{Own: 1, Next: 1})
	linked(t, m, 1, 2, api.LinkState{Next: 2, Mark: 1, Met: true})
	answers(t, m.Deliver(3), api.OK)
	answers(t, m.Deliver(1), api.OK)
	flies(t, m, "5:3>2", "6:0>2")
}

// TestP24_3Twice: what comes twice is there once; the second one is answered by nothing.
func TestP24_3Twice(t *testing.T) {
	m := made(t, session(2, 0, 2))
	answers(t, m.Command(0, say(1), 1), api.OK)
	ticks(t, m, 0, 1)
	answers(t, m.Double(1), api.OK)
	answers(t, m.Double(2), api.OK)
	answers(t, m.Double(1), api.OK)
	flies(t, m, "1:0>1", "2:0>1", "3:0>1", "4:0>1")
	l := m.Flight()
	for _, p := range l[1:] {
		if !slices.Equal(p.Bytes, l[0].Bytes) {
			t.Errorf("parcel %d has other bytes", p.No)
		}
	}
	answers(t, m.Deliver(3), api.OK)
	flies(t, m, "1:0>1", "2:0>1", "4:0>1", "5:1>0")
	for _, no := range []int{1, 4, 2} {
		answers(t, m.Deliver(no), api.OK)
	}
	flies(t, m, "5:1>0")
	holds(t, m, 1, command(1, 0, 1, say(1)))
	counts(t, m, 1, api.Counters{Got: 4, Sent: 1})
}

// TestP24_3Drop: what is lost has come to nobody; what was sent in it comes with the next one.
func TestP24_3Drop(t *testing.T) {
	m := made(t, session(2, 0, 2))
	answers(t, m.Command(0, say(1), 1), api.OK)
	ticks(t, m, 0, 2)
	was := peerState(m.Peer(0)) + peerState(m.Peer(1))
	answers(t, m.Drop(1), api.OK)
	flies(t, m, "2:0>1")
	if peerState(m.Peer(0))+peerState(m.Peer(1)) != was {
		t.Error("a peer knows of what was lost")
	}
	answers(t, m.Deliver(2), api.OK)
	holds(t, m, 1, command(1, 0, 1, say(1)))
}

// broken lets peer 0 of two receive what peer 1 never sent: from then on peer 1 refuses what peer 0 sends.
func broken(t *testing.T, c api.Config, d api.Datagram) *mesh.Mesh {
	t.Helper()
	m := made(t, c)
	for i := range 3 {
		answers(t, m.Command(0, say(i), 2), api.OK)
	}
	d.Session, d.From, d.To = number(c), 1, 0
	if _, e := m.Peer(0).Receive(bytesOf(t, d)); e != api.OK {
		t.Fatalf("%d", e)
	}
	return m
}

// TestP24_3Refused: the answer is what the peer says that refuses a parcel; that is on its way no more, and is answered by nothing.
func TestP24_3Refused(t *testing.T) {
	c := session(2, 0, 2)
	forged := command(3, 1, 1, say(9))
	for _, x := range []struct {
		d       api.Datagram
		want    api.Errno
		refused int // behind three quiet rounds
	}{
		// Turns that begin with the third command are refused, Acks are not.
		{api.Datagram{Kind: api.Ack, Ack: 2}, api.ErrGap, 5},
		// An Ack of a command that was never laid is refused too.
		{api.Datagram{Kind: api.Turn, First: 1, Commands: []api.Command{forged}, Ack: 0}, api.ErrBroken, 8},
	} {
		m := broken(t, c, x.d)
		answers(t, m.Tick(0), api.OK)
		answers(t, m.Double(1), api.OK)
		n := m.Peer(1).Counters()
		for no := range 2 {
			answers(t, m.Deliver(no+1), x.want)
			answers(t, m.Deliver(no+1), api.ErrBagNone)
			n.Refused++
			counts(t, m, 1, n)
		}
		flies(t, m)
		holds(t, m, 1)
		tabled(t, m, command(2, 0, 1, say(0)), command(2, 0, 2, say(1)), command(2, 0, 3, say(2)))
		// A quiet round goes on over it.
		answers(t, m.Quiet(3), api.OK)
		flies(t, m)
		holds(t, m, 1)
		if got := m.Peer(1).Counters(); got.Refused != x.refused || got.Got+got.Refused != 8 || got.Ticks != 3 || leadOf(m.Peer(0)) != 4 {
			t.Errorf("%+v", got)
		}
	}
}

// TestP24_3MarkTooFar: a mark that is too far ahead is refused at first, and taken when its peer has gone on.
func TestP24_3MarkTooFar(t *testing.T) {
	c := session(2, 0, 2)
	m := made(t, c)
	d := api.Datagram{Kind: api.Turn, Session: number(c), From: 1, To: 0, Mark: 10, First: 1}
	if _, e := m.Peer(0).Receive(bytesOf(t, d)); e != api.OK {
		t.Fatalf("%d", e)
	}
	ticks(t, m, 0, 50)
	answers(t, m.Double(50), api.OK)
	answers(t, m.Deliver(49), api.ErrBroken)
	answers(t, m.Deliver(50), api.ErrBroken)
	flies(t, m, append(numbered(1, 48, 0, 1), "51:0>1")...)
	ticks(t, m, 1, 2)
	answers(t, m.Deliver(51), api.OK)
	linked(t, m, 1, 0, api.LinkState{Next: 1, Mark: 50, Met: true})
}

// numbered are parcels from one to another, as flies tells them.
func numbered(from, to, p, q int) []string {
	var out []string
	for no := from; no <= to; no++ {
		out = append(out, fmt.Sprintf("%d:%d>%d", no, p, q))
	}
	return out
}

// TestP24_3OldOnes: parcels that come in another order than they were sent.
func TestP24_3OldOnes(t *testing.T) {
	m := made(t, session(2, 0, 2))
	for i := range 5 {
		answers(t, m.Command(0, say(i), int64(i+2)), api.OK)
		answers(t, m.Tick(0), api.OK)
	}
	answers(t, m.Deliver(3), api.OK)
	linked(t, m, 1, 0, api.LinkState{Next: 4, Mark: 3, Met: true})
	answers(t, m.Deliver(1), api.OK)
	answers(t, m.Deliver(2), api.OK)
	linked(t, m, 1, 0, api.LinkState{Next: 4, Mark: 3, Met: true})
	flies(t, m, "4:0>1", "5:0>1", "6:1>0")
	answers(t, m.Deliver(5), api.OK)
	answers(t, m.Deliver(4), api.OK)
	linked(t, m, 1, 0, api.LinkState{Next: 6, Mark: 5, Met: true})
	flies(t, m, "6:1>0", "7:1>0")
	answers(t, m.Deliver(7), api.OK)
	answers(t, m.Deliver(6), api.OK)
	linked(t, m, 0, 1, api.LinkState{Own: 5, Acked: 5, Next: 1, Met: true})
	if m.Peer(1).Counters().Refused+m.Peer(0).Counters().Refused > 0 {
		t.Error("something was refused")
	}
}

// TestP24_3Bytes: a parcel's are those that its peer has answered.
func TestP24_3Bytes(t *testing.T) {
	c := session(3, 0, 2)
	m := made(t, c)
	twin, _ := peer.New(c, 1)
	answers(t, m.Command(1, steer(1), 4), api.OK)
	twin.Command(steer(1), 4)
	for i := range 5 {
		answers(t, m.Tick(1), api.OK)
		want, _ := twin.Tick()
		l := m.Flight()[2*i:]
		for j, p := range want {
			p.No = 2*i + j + 1
			if d, _ := wire.Decode(l[j].Bytes); !sameParcel(l[j], p) {
				t.Fatalf("%v with %+v, meant %v", l[j], d, p)
			}
		}
	}
}
