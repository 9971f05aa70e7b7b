package mesh_test

import (
	"math"
	"math/rand"
	"slices"
	"testing"

	"echelon/api"
	"echelon/mesh"
	"echelon/peer"
)

// meant is the chapter read a second time, by other means: there is no bag, but a list of all parcels that ever were, and the peers tick one behind the other.
type meant struct {
	peers []*peer.Peer
	ever  []parcel // number 1 is at place 0
	table []api.Command
}

type parcel struct {
	api.Parcel
	gone bool
}

func meantOf(t *testing.T, c api.Config) *meant {
	t.Helper()
	m := &meant{}
	for seat := range c.Peers {
		p, e := peer.New(c, seat)
		answers(t, e, api.OK)
		m.peers = append(m.peers, p)
	}
	return m
}

func (m *meant) is(p int) bool { return p >= 0 && p < len(m.peers) }

func (m *meant) onWay(no int) bool { return no > 0 && no <= len(m.ever) && !m.ever[no-1].gone }

func (m *meant) send(l ...api.Parcel) {
	for _, p := range l {
		p.No = len(m.ever) + 1
		m.ever = append(m.ever, parcel{Parcel: p})
	}
}

func (m *meant) flight() []api.Parcel {
	var out []api.Parcel
	for _, p := range m.ever {
		if !p.gone {
			out = append(out, p.Parcel)
		}
	}
	return out
}

func (m *meant) command(p int, o api.Order, frame int64) api.Errno {
	if !m.is(p) {
		return 240
	}
	e := m.peers[p].Command(o, frame)
	if e == 0 {
		seq := 1
		for _, c := range m.table {
			if c.Peer == p {
				seq++
			}
		}
		m.table = append(m.table, command(frame, p, seq, o))
	}
	return e
}

func (m *meant) tick(p int) api.Errno {
	if !m.is(p) {
		return 240
	}
	out, e := m.peers[p].Tick()
	m.send(out...)
	return e
}

func (m *meant) deliver(no int) api.Errno {
	if !m.onWay(no) {
		return 170
	}
	x := &m.ever[no-1]
	x.gone = true
	out, e := m.peers[x.To].Receive(x.Bytes)
	m.send(out...)
	return e
}

func (m *meant) drop(no int) api.Errno {
	if !m.onWay(no) {
		return 170
	}
	m.ever[no-1].gone = true
	return 0
}

func (m *meant) double(no int) api.Errno {
	if !m.onWay(no) {
		return 170
	}
	m.send(m.ever[no-1].Parcel)
	return 0
}

func (m *meant) quiet(rounds int) api.Errno {
	if rounds < 0 || rounds > 200 {
		return 1
	}
	for range rounds {
		for p := range m.peers {
			m.tick(p)
		}
		for no := 1; no <= len(m.ever); no++ { // those that are sent meanwhile come last
			m.deliver(no)
		}
	}
	return 0
}

func (m *meant) call(c api.Call) api.Errno {
	switch c.Kind {
	case 1:
		return m.command(c.Peer, c.Order, c.Frame)
	case 2:
		return m.tick(c.Peer)
	case 3:
		return m.deliver(c.Peer)
	case 4:
		return m.drop(c.Peer)
	case 5:
		return m.double(c.Peer)
	}
	return 1
}

// drawnOrder is mostly one that may be, and does something.
func drawnOrder(r *rand.Rand) api.Order {
	switch r.Intn(12) {
	case 0:
		return api.Order{Verb: api.Halt}
	case 1:
		return api.Order{Verb: api.Aim, A: r.Intn(16)}
	case 2, 3:
		return api.Order{Verb: api.Fire, A: 1 + r.Intn(3)}
	case 4:
		return api.Order{Verb: api.Dash, A: r.Intn(16)}
	case 5:
		return api.Order{Verb: api.Shield, A: r.Intn(2)}
	case 6:
		return api.Order{Verb: api.Say, A: r.Intn(256)}
	case 7:
		if r.Intn(3) == 0 {
			return badOrders[r.Intn(len(badOrders))]
		}
	}
	return api.Order{Verb: api.Steer, A: r.Intn(17) - 8, B: r.Intn(17) - 8}
}

// drawnFrame is mostly one for which a peer may lay.
func drawnFrame(r *rand.Rand, lead int64) int64 {
	switch r.Intn(20) {
	case 0:
		return lead + []int64{-1, 0, 1, 16, 17}[r.Intn(5)]
	case 1:
		return farFrames[r.Intn(len(farFrames))]
	}
	return lead + 1 + r.Int63n(1+r.Int63n(16))
}

// net is how a drawn one is: of how many of its parcels each comes, is lost, comes twice, and whether the older ones come first.
type net struct {
	comes, lost, twice int
	orderly            bool
	slow               int // a seat that ticks seldom
}

func drawnNet(r *rand.Rand, peers int) net {
	return net{comes: 1 + r.Intn(8), lost: r.Intn(4), twice: r.Intn(3), orderly: r.Intn(2) == 0, slow: r.Intn(peers + 2)}
}

// drawnNo is the number of a parcel on its way, seldom of none.
func drawnNo(r *rand.Rand, x net, flight []api.Parcel, ever int) int {
	switch n := r.Intn(25); {
	case n == 0:
		return []int{-1, 0, ever, ever + 1, math.MinInt, math.MaxInt}[r.Intn(6)]
	case n == 1 || len(flight) == 0:
		return 1 + r.Intn(ever+1)
	case x.orderly:
		return flight[r.Intn(min(3, len(flight)))].No
	}
	return flight[r.Intn(len(flight))].No
}

// drawnCall is one, mostly such as does something.
func drawnCall(r *rand.Rand, x net, m *mesh.Mesh, peers int, ever int) api.Call {
	p := r.Intn(peers)
	if p == x.slow && r.Intn(4) > 0 {
		p = (p + 1) % peers
	}
	if r.Intn(40) == 0 {
		p = []int{-1, peers, peers + 1, math.MinInt, math.MaxInt}[r.Intn(5)]
		return []api.Call{tick(p), lay(p, drawnOrder(r), 1)}[r.Intn(2)]
	}
	switch n := r.Intn(8 + x.comes + x.lost + x.twice); {
	case n == 0 && r.Intn(4) == 0:
		return api.Call{Kind: []int{0, -1, 6, math.MinInt, math.MaxInt}[r.Intn(5)], Peer: p}
	case n < 4:
		return lay(p, drawnOrder(r), drawnFrame(r, leadOf(m.Peer(p))))
	case n < 8:
		return tick(p)
	case n < 8+x.comes:
		return deliver(drawnNo(r, x, m.Flight(), ever))
	case n < 8+x.comes+x.lost:
		return drop(drawnNo(r, x, m.Flight(), ever))
	}
	return double(drawnNo(r, x, m.Flight(), ever))
}

// drawnLags are as many as there may be, near one another or far.
func drawnLags(r *rand.Rand) []int {
	if r.Intn(3) == 0 {
		return lagsOf[r.Intn(len(lagsOf))]
	}
	lags := []int{0}
	for n := 1 + r.Intn(4); len(lags) <= n; {
		lags = append(lags, lags[len(lags)-1]+1+r.Intn(1+r.Intn(11)))
	}
	return lags
}

func drawnSession(r *rand.Rand) api.Config {
	c := session(2+r.Intn(5), drawnLags(r)...)
	c.Seed = r.Uint64()
	return c
}

// agrees holds what a mesh tells of itself to what is meant, and now and then all that its peers tell.
func agrees(t *testing.T, m *mesh.Mesh, x *meant, whole bool) {
	t.Helper()
	if got, want := m.Flight(), x.flight(); !sameParcels(got, want) {
		t.Fatalf("Flight: %v, meant %v", got, want)
	}
	tabled(t, m, x.table...)
	for seat, p := range x.peers {
		counts(t, m, seat, p.Counters())
		at(t, m, seat, p.Frames()...)
		if whole && peerState(m.Peer(seat)) != peerState(p) {
			t.Fatalf("seat %d is not as it is meant to be", seat)
		}
	}
	if t.Failed() {
		t.FailNow()
	}
}

// TestP24_7Meant plays at random, and holds every answer, and all that is told behind it, against what is meant. Each answer must have been seen often enough.
func TestP24_7Meant(t *testing.T) {
	r := rand.New(rand.NewSource(247))
	seen := map[api.Errno]int{}
	rounds := map[int]int{}
	for range 60 {
		c := drawnSession(r)
		m, x, n := made(t, c), meantOf(t, c), drawnNet(r, c.Peers)
		for i := range 200 {
			if r.Intn(30) == 0 {
				k := []int{-1, 0, 1, 1, 2, 3, 201, math.MinInt, math.MaxInt}[r.Intn(9)]
				answers(t, m.Quiet(k), x.quiet(k))
				rounds[k]++
			} else {
				var script []api.Call
				var want []api.Errno
				for range 1 + r.Intn(3) {
					call := drawnCall(r, n, m, c.Peers, len(x.ever))
					script = append(script, call)
					want = append(want, x.call(call))
					seen[want[len(want)-1]]++
				}
				if got := m.Run(script); !slices.Equal(got, want) {
					t.Fatalf("Run(%v): %v, meant %v", script, got, want)
				}
			}
			agrees(t, m, x, i%20 == 0)
		}
		answers(t, m.Quiet(20), x.quiet(20))
		agrees(t, m, x, true)
	}
	t.Logf("answers %v, rounds %v", seen, rounds)
	for _, e := range []api.Errno{0, 1, 70, 71, 170, 221, 222, 223, 240} {
		if seen[e] < 40 {
			t.Errorf("%d was answered only %d times", e, seen[e])
		}
	}
}
