package mesh_test

import (
	"bytes"
	"slices"
	"sync"
	"testing"

	"echelon/api"
	"echelon/mesh"
)

// spoil writes over a list, and over the room behind its end.
func spoil[T any](l []T, with T) {
	l = l[:cap(l)]
	for i := range l {
		l[i] = with
	}
}

var badCommand = api.Command{Frame: -1, Peer: -2, Seq: -3, Order: api.Order{Verb: -4}}

func spoilParcels(l []api.Parcel) {
	for _, p := range l {
		spoil(p.Bytes, 0xee)
	}
	spoil(l, api.Parcel{No: -1, From: -2, To: -3, Bytes: []byte("spoilt")})
}

// spoilAll asks a mesh for all lists that it tells, and writes over them.
func spoilAll(m *mesh.Mesh) {
	spoilParcels(m.Flight())
	spoil(m.Table(), badCommand)
	spoil(m.Run(nil), -1)
}

// TestP24_1HandedIn: who writes into a session that was handed in changes nothing of the mesh, and the mesh changes nothing of it.
func TestP24_1HandedIn(t *testing.T) {
	room := []int{0, 2, 5, 40, 41, 42}
	c := session(3, room[:3]...)
	m, alone := made(t, c), made(t, session(3, 0, 2, 5))
	for i := range 30 {
		for _, x := range []*mesh.Mesh{m, alone} {
			answers(t, x.Command(i%3, steer(i), leadOf(x.Peer(i%3))+2), api.OK)
			answers(t, x.Tick(i*i%3), api.OK)
			answers(t, x.Quiet(1), api.OK)
		}
		if i == 9 && !slices.Equal(room, []int{0, 2, 5, 40, 41, 42}) {
			t.Errorf("the session was changed: %v", room)
		}
		if i >= 9 {
			spoil(room, 30-i)
			c.Peers, c.Seed, c.Arena = 6, 99, api.Arena{}
		}
		if state(m) != state(alone) {
			t.Fatalf("%d: what is written into the session is seen in the mesh", i)
		}
	}
}

// TestP24_6AnswersAreNewMemory: who writes into an answer changes nothing of the mesh.
func TestP24_6AnswersAreNewMemory(t *testing.T) {
	for _, peers := range []int{2, 3, 6} {
		c := session(peers, 0, 2, 5)
		m, twin := stirred(t, c, 1), stirred(t, c, 1)
		for i := range 40 {
			for _, x := range []*mesh.Mesh{m, twin} {
				x.Command(i%peers, steer(i), leadOf(x.Peer(i%peers))+1+int64(i%16))
				x.Tick(i * 5 % peers)
				x.Double(onWay(x, i*3))
				x.Deliver(onWay(x, i*11))
				if i%10 == 9 {
					x.Quiet(2)
				}
			}
			spoilAll(m)
			if state(m) != state(twin) {
				t.Fatalf("%d peers, %d: what is written into answers is seen in the mesh", peers, i)
			}
		}
	}
}

// TestP24_6AnswersAreApart: no two answers, and no two lists of one, share any memory; what was told stays so.
func TestP24_6AnswersAreApart(t *testing.T) {
	c := session(3, 0, 2)
	m := stirred(t, c, 2)
	first, second, table, again := m.Flight(), m.Flight(), m.Table(), m.Table()
	was := make([]api.Parcel, len(first))
	for i, p := range first {
		p.Bytes = bytes.Clone(p.Bytes)
		was[i] = p
	}
	tableWas := slices.Clone(table)
	for i := range first {
		spoil(first[i].Bytes, 0xee)
		for j, p := range first[i+1:] {
			if !sameParcel(p, was[i+1+j]) {
				t.Fatalf("those at places %d and %d share their bytes", i, i+1+j)
			}
		}
	}
	spoilParcels(first)
	spoil(again, badCommand)
	m.Command(0, say(1), leadOf(m.Peer(0))+1)
	m.Quiet(2)
	spoilAll(m)
	if !sameParcels(second, was) || !slices.Equal(table, tableWas) {
		t.Error("what was told has changed")
	}
}

// TestP24_5Script: it is neither changed nor kept, the room behind its end neither; what is answered is new memory.
func TestP24_5Script(t *testing.T) {
	c := session(2, 0, 2)
	m, twin := made(t, c), made(t, c)
	rest := []api.Call{tick(1), lay(1, say(9), 3), {Kind: 9}}
	var told [][]api.Errno
	for i := range 20 {
		calls := []api.Call{lay(0, steer(i), int64(i+2)), tick(0), {Kind: -i}, double(i + 1), deliver(i + 1), tick(2)}
		script := append(slices.Clone(calls), rest...)
		got, want := m.Run(script[:len(calls)]), twin.Run(slices.Clip(slices.Clone(calls)))
		if !slices.Equal(script, append(slices.Clone(calls), rest...)) {
			t.Fatalf("%d: the script has changed: %v", i, script)
		}
		spoil(script, api.Call{Kind: -1, Peer: -1, Frame: -1, Order: api.Order{Verb: -1}})
		if !slices.Equal(got, want) {
			t.Fatalf("%d: %v, meant %v", i, got, want)
		}
		told = append(told, got)
		spoil(want, -1)
		if state(m) != state(twin) {
			t.Fatalf("%d: what is written into a script is seen in the mesh", i)
		}
	}
	for i, got := range told {
		if len(got) != 6 || got[0] != api.OK || got[1] != api.OK || got[2] != api.ErrArg || got[5] != api.ErrMeshPeer {
			t.Errorf("what script %d has answered has changed: %v", i, got)
		}
	}
}

// TestP24_6Peer: it is the mesh's own one each time, as it stands.
func TestP24_6Peer(t *testing.T) {
	for _, peers := range []int{2, 6} {
		m := made(t, session(peers, 0, 2))
		l := peersOf(m)
		if len(l) != peers {
			t.Fatalf("%d peers, meant %d", len(l), peers)
		}
		answers(t, m.Command(peers-1, say(1), 2), api.OK)
		answers(t, m.Quiet(3), api.OK)
		for p, was := range l {
			if m.Peer(p) != was || leadOf(was) != 3 || len(was.Held()) != 1 {
				t.Errorf("seat %d: at %v, with %v", p, was.Frames(), was.Held())
			}
			for _, q := range l[p+1:] {
				if q == was {
					t.Errorf("seat %d is on another seat too", p)
				}
			}
			// What it sends to others says whose it is.
			out, _ := was.Tick()
			if len(out) != peers-1 || out[0].From != p {
				t.Errorf("seat %d sends %v", p, out)
			}
		}
		// What a peer has answered to somebody else is not sent.
		flies(t, m)
		for _, p := range append([]int{peers, peers + 1, 6, 7}, farInts...) {
			if m.Peer(p) != nil {
				t.Errorf("%d peers: Peer(%d) is one", peers, p)
			}
		}
	}
}

// TestP24_6Table: in the order in which they were laid, whatever their frames and seats are; it forgets none.
func TestP24_6Table(t *testing.T) {
	m := made(t, session(3, 0, 1))
	var want []api.Command
	seqs := make([]int, 3)
	for i := range 300 {
		p := i * i * 7 % 3
		frame := leadOf(m.Peer(p)) + 1 + int64(i*11%16)
		if m.Command(p, steer(i), frame) == api.OK {
			seqs[p]++
			want = append(want, command(frame, p, seqs[p], steer(i)))
		}
		if i%4 == 0 {
			answers(t, m.Quiet(1), api.OK)
		}
		tabled(t, m, want...)
	}
	if len(want) < 200 || slices.IsSortedFunc(want, func(a, b api.Command) int { return int(a.Frame - b.Frame) }) {
		t.Errorf("too little was laid: %v", want)
	}
	answers(t, m.Quiet(60), api.OK)
	tabled(t, m, want...)
}

// TestP24_6Flight: by numbers, with those that were doubled at the end, whoever has sent them.
func TestP24_6Flight(t *testing.T) {
	m := made(t, session(3, 0, 2))
	flies(t, m)
	ticks(t, m, 2, 1)
	ticks(t, m, 0, 1)
	ticks(t, m, 1, 1)
	flies(t, m, "1:2>0", "2:2>1", "3:0>1", "4:0>2", "5:1>0", "6:1>2")
	answers(t, m.Double(4), api.OK)
	answers(t, m.Double(1), api.OK)
	answers(t, m.Drop(5), api.OK)
	answers(t, m.Deliver(2), api.OK)
	flies(t, m, "1:2>0", "3:0>1", "4:0>2", "6:1>2", "7:0>2", "8:2>0", "9:1>2")
	l := m.Flight()
	if !bytes.Equal(l[0].Bytes, l[5].Bytes) || !bytes.Equal(l[2].Bytes, l[4].Bytes) || bytes.Equal(l[0].Bytes, l[2].Bytes) {
		t.Error("those that are doubled have other bytes")
	}
	for _, no := range []int{9, 8, 7, 6, 4, 3, 1} {
		answers(t, m.Drop(no), api.OK)
	}
	flies(t, m)
}

// TestP24_1SideBySide: meshes of one session may be called side by side, each by one.
func TestP24_1SideBySide(t *testing.T) {
	c := session(4, 0, 2, 5, 9)
	play := func(m *mesh.Mesh) {
		for i := range 30 {
			m.Command(i%4, steer(i), leadOf(m.Peer(i%4))+2)
			m.Tick(i * 3 % 4)
			m.Drop(i)
			m.Double(i + 3)
			m.Quiet(i % 3)
		}
	}
	l := make([]*mesh.Mesh, 6)
	for i := range l {
		l[i] = made(t, c)
	}
	var wait sync.WaitGroup
	for _, m := range l {
		wait.Go(func() { play(m) })
	}
	wait.Wait()
	alone := made(t, c)
	play(alone)
	for i, m := range l {
		if state(m) != state(alone) {
			t.Errorf("mesh %d is another one side by side", i)
		}
	}
}
