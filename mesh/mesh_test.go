package mesh_test

import (
	"bytes"
	"fmt"
	"math"
	"slices"
	"strings"
	"testing"

	"echelon/api"
	"echelon/arena"
	"echelon/clone"
	"echelon/mesh"
	"echelon/peer"
	"echelon/wire"
	"echelon/world"
)

// farInts and farFrames are numbers at which a reckoning may go wrong: at half a word, at the bounds of their type.
var (
	farInts   = []int{math.MinInt, math.MinInt + 1, -1 << 32, -1<<32 + 1, -2, -1, 1 << 31, 1 << 32, 1<<32 + 1, math.MaxInt - 1, math.MaxInt}
	farFrames = []int64{math.MinInt64, math.MinInt64 + 16, -1 << 32, -1, 1 << 32, 1 << 40, math.MaxInt64 - 16, math.MaxInt64}
)

// badOrders are some that verb.Check refuses, for each ground of it.
var badOrders = []api.Order{{}, {Verb: -1}, {Verb: 8}, {Verb: api.Steer, A: 9}, {Verb: api.Halt, A: 1}, {Verb: api.Fire}, {Verb: api.Say, A: 256}, {Verb: math.MinInt, A: math.MaxInt}}

// lagsOf are lags of each number of rungs, as little and as great as they may be.
var lagsOf = [][]int{{0, 1}, {0, 2}, {0, 47}, {0, 1, 2}, {0, 2, 5}, {0, 46, 47}, {0, 1, 2, 3}, {0, 3, 20, 40}, {0, 1, 2, 3, 4}, {0, 2, 5, 9, 14}, {0, 44, 45, 46, 47}}

// session is one on the standard map that has six starts.
func session(peers int, lags ...int) api.Config {
	a, _ := arena.Standard(1)
	return api.Config{Peers: peers, Seed: 7, Arena: a, Lags: lags}
}

// small is the session of the document's examples.
func small(lags ...int) api.Config {
	a, _ := arena.Standard(3)
	return api.Config{Peers: 2, Seed: 7, Arena: a, Lags: lags}
}

func mapOf(n int) api.Arena {
	a, _ := arena.Standard(n)
	return a
}

func number(c api.Config) uint64 {
	n, _ := clone.Session(c)
	return n
}

func say(what int) api.Order { return api.Order{Verb: api.Say, A: what} }

// steer is an order that every later frame tells of: a mover stands elsewhere by it.
func steer(n int) api.Order { return api.Order{Verb: api.Steer, A: n%17 - 8, B: 3} }

func command(frame int64, seat, seq int, o api.Order) api.Command {
	return api.Command{Frame: frame, Peer: seat, Seq: seq, Order: o}
}

func made(t *testing.T, c api.Config) *mesh.Mesh {
	t.Helper()
	m, e := mesh.New(c)
	if m == nil || e != api.OK {
		t.Fatalf("New(%d peers, lags %v): %v %d", c.Peers, c.Lags, m, e)
	}
	return m
}

// answers holds what a call has answered to what is meant.
func answers(t *testing.T, got, want api.Errno) {
	t.Helper()
	if got != want {
		t.Fatalf("%d is answered, meant %d", got, want)
	}
}

// refused holds a call to answer an error, and to change nothing of the mesh.
func refused(t *testing.T, m *mesh.Mesh, name string, want api.Errno, call func() api.Errno) {
	t.Helper()
	was := state(m)
	if e := call(); e != want {
		t.Errorf("%s: %d, meant %d", name, e, want)
	}
	if state(m) != was {
		t.Errorf("%s, which is refused, has changed something", name)
	}
}

func ticks(t *testing.T, m *mesh.Mesh, p, n int) {
	t.Helper()
	for range n {
		answers(t, m.Tick(p), api.OK)
	}
}

func leadOf(p *peer.Peer) int64 { return p.Frames()[0] }

func hindOf(p *peer.Peer) int64 {
	f := p.Frames()
	return f[len(f)-1]
}

// peersOf are those of a mesh, by seats: no more than there may be, and one seat more.
func peersOf(m *mesh.Mesh) []*peer.Peer {
	var out []*peer.Peer
	for seat := range api.MaxPeers + 1 {
		if p := m.Peer(seat); p != nil {
			out = append(out, p)
		}
	}
	return out
}

// at holds a peer's copies to be at these frames.
func at(t *testing.T, m *mesh.Mesh, p int, frames ...int64) {
	t.Helper()
	if got := m.Peer(p).Frames(); !slices.Equal(got, frames) {
		t.Errorf("Frames of %d: %v, meant %v", p, got, frames)
	}
}

func holds(t *testing.T, m *mesh.Mesh, p int, want ...api.Command) {
	t.Helper()
	if got := m.Peer(p).Held(); !slices.Equal(got, want) {
		t.Errorf("Held of %d: %v, meant %v", p, got, want)
	}
}

func misses(t *testing.T, m *mesh.Mesh, p, rung int, want ...api.Command) {
	t.Helper()
	if got := m.Peer(p).Missed(rung); !slices.Equal(got, want) {
		t.Errorf("Missed(%d) of %d: %v, meant %v", rung, p, got, want)
	}
}

func linked(t *testing.T, m *mesh.Mesh, p, to int, want api.LinkState) {
	t.Helper()
	if got := m.Peer(p).Links()[to]; got != want {
		t.Errorf("how %d stands with %d: %+v, meant %+v", p, to, got, want)
	}
}

func counts(t *testing.T, m *mesh.Mesh, p int, want api.Counters) {
	t.Helper()
	if got := m.Peer(p).Counters(); got != want {
		t.Errorf("Counters of %d: %+v, meant %+v", p, got, want)
	}
}

func tabled(t *testing.T, m *mesh.Mesh, want ...api.Command) {
	t.Helper()
	if got := m.Table(); !slices.Equal(got, want) {
		t.Errorf("Table: %v, meant %v", got, want)
	}
}

// flies holds what is on its way to be these, told as the shell tells them: number, From and To.
func flies(t *testing.T, m *mesh.Mesh, want ...string) {
	t.Helper()
	var got []string
	for _, p := range m.Flight() {
		got = append(got, fmt.Sprintf("%d:%d>%d", p.No, p.From, p.To))
	}
	if !slices.Equal(got, want) {
		t.Errorf("Flight: %v, meant %v", got, want)
	}
}

func sameParcel(a, b api.Parcel) bool {
	return a.No == b.No && a.From == b.From && a.To == b.To && bytes.Equal(a.Bytes, b.Bytes)
}

func sameParcels(a, b []api.Parcel) bool { return slices.EqualFunc(a, b, sameParcel) }

// opened are the datagrams on their way, by numbers.
func opened(t *testing.T, m *mesh.Mesh) map[int]api.Datagram {
	t.Helper()
	out := map[int]api.Datagram{}
	for _, p := range m.Flight() {
		d, e := wire.Decode(p.Bytes)
		if e != api.OK || d.From != p.From || d.To != p.To {
			t.Fatalf("parcel %v: %+v %d", p, d, e)
		}
		out[p.No] = d
	}
	return out
}

// bytesOf are a datagram's, as an honest peer would send it or not.
func bytesOf(t *testing.T, d api.Datagram) []byte {
	t.Helper()
	b, e := wire.Encode(d)
	if e != api.OK {
		t.Fatalf("Encode(%+v): %d", d, e)
	}
	return b
}

func peerState(p *peer.Peer) string {
	var s strings.Builder
	fmt.Fprintln(&s, p.Counters(), p.Frames(), p.Held(), p.Least(), p.Links(), p.Kept(), p.Last())
	for rung := range p.Frames() {
		w, e := p.World(rung)
		fmt.Fprintln(&s, w, e, p.Missed(rung))
	}
	for frame := range hindOf(p) + 2 {
		d, is := p.Digest(frame)
		fmt.Fprintln(&s, d, is)
	}
	return s.String()
}

// state is all that a mesh tells.
func state(m *mesh.Mesh) string {
	var s strings.Builder
	for _, p := range peersOf(m) {
		fmt.Fprintln(&s, peerState(p))
	}
	for _, p := range m.Flight() {
		fmt.Fprintln(&s, p.No, p.From, p.To, p.Bytes)
	}
	fmt.Fprintln(&s, m.Table())
	return s.String()
}

// ref is the world behind a frame, by commands.
func ref(t *testing.T, c api.Config, frame int64, commands ...api.Command) api.World {
	t.Helper()
	w, e := world.Ref(c, frame, commands)
	if e != api.OK {
		t.Fatalf("Ref(%d, %v): %d", frame, commands, e)
	}
	return w
}

// TestP24_1Examples plays the chapter's examples.
func TestP24_1Examples(t *testing.T) {
	m := made(t, small(0, 2))
	answers(t, m.Tick(0), api.OK)
	flies(t, m, "1:0>1")
	answers(t, m.Command(1, say(5), 3), api.OK)
	answers(t, m.Tick(1), api.OK)
	flies(t, m, "1:0>1", "2:1>0")
	answers(t, m.Deliver(2), api.OK)
	holds(t, m, 0, command(3, 1, 1, say(5)))
	flies(t, m, "1:0>1", "3:0>1")
	if d := opened(t, m)[3]; d.Kind != api.Ack || d.Ack != 1 {
		t.Errorf("%+v", d)
	}
	answers(t, m.Drop(1), api.OK)
	answers(t, m.Deliver(1), api.ErrBagNone)
	answers(t, m.Double(3), api.OK)
	flies(t, m, "3:0>1", "4:0>1")
	answers(t, m.Deliver(3), api.OK)
	answers(t, m.Deliver(4), api.OK)
	answers(t, m.Quiet(5), api.OK)
	for p := range 2 {
		at(t, m, p, 6, 4)
	}
	for frame := range int64(5) {
		a, is := m.Peer(0).Digest(frame)
		b, too := m.Peer(1).Digest(frame)
		if a != b || !is || !too {
			t.Errorf("frame %d: %x %t, %x %t", frame, a, is, b, too)
		}
	}
	answers(t, m.Tick(2), api.ErrMeshPeer)
	answers(t, m.Quiet(201), api.ErrArg)
}

// badSessions are those that CheckConfig refuses, each ground of it.
func badSessions() map[string]api.Config {
	with := func(change func(*api.Config)) api.Config {
		c := session(2, 0, 2)
		change(&c)
		return c
	}
	three, _ := arena.Standard(3)
	return map[string]api.Config{
		"nothing at all":        {},
		"no peers":              with(func(c *api.Config) { c.Peers = 0 }),
		"one peer":              with(func(c *api.Config) { c.Peers = 1 }),
		"seven peers":           with(func(c *api.Config) { c.Peers = 7 }),
		"peers below 0":         with(func(c *api.Config) { c.Peers = -2 }),
		"the least of peers":    with(func(c *api.Config) { c.Peers = math.MinInt }),
		"the greatest of peers": with(func(c *api.Config) { c.Peers = math.MaxInt }),
		"more peers than starts": with(func(c *api.Config) {
			c.Peers, c.Arena = 5, three
		}),
		"no arena":         with(func(c *api.Config) { c.Arena = api.Arena{} }),
		"a wrong arena":    with(func(c *api.Config) { c.Arena.Cols++ }),
		"signs that lack":  with(func(c *api.Config) { c.Arena.Signs = c.Arena.Signs[1:] }),
		"a sign of no map": with(func(c *api.Config) { c.Arena.Signs = "?" + c.Arena.Signs[1:] }),
		"no lags":          with(func(c *api.Config) { c.Lags = nil }),
		"empty lags":       with(func(c *api.Config) { c.Lags = []int{} }),
		"one lag":          with(func(c *api.Config) { c.Lags = []int{0} }),
		"six lags":         with(func(c *api.Config) { c.Lags = []int{0, 1, 2, 3, 4, 5} }),
		"a first lag":      with(func(c *api.Config) { c.Lags = []int{1, 2} }),
		"lags alike":       with(func(c *api.Config) { c.Lags = []int{0, 2, 2} }),
		"lags that fall":   with(func(c *api.Config) { c.Lags = []int{0, 3, 2} }),
		"a lag of 48":      with(func(c *api.Config) { c.Lags = []int{0, 48} }),
		"a lag below 0":    with(func(c *api.Config) { c.Lags = []int{0, -1} }),
		"the greatest lag": with(func(c *api.Config) { c.Lags = []int{0, math.MaxInt} }),
	}
}

// TestP24_1Sessions: what CheckConfig refuses is refused, by its error, and without a mesh.
func TestP24_1Sessions(t *testing.T) {
	for name, c := range badSessions() {
		want := world.CheckConfig(c)
		if want == api.OK {
			t.Fatalf("%s: CheckConfig takes it", name)
		}
		if m, e := mesh.New(c); m != nil || e != want {
			t.Errorf("%s: %v %d, meant %d", name, m, e, want)
		}
	}
}

// TestP24_1Begun: of each number of peers and of rungs: a new peer on each seat, of this session, and nothing else.
func TestP24_1Begun(t *testing.T) {
	for peers := 2; peers <= 6; peers++ {
		for _, lags := range lagsOf {
			c := session(peers, lags...)
			m := made(t, c)
			flies(t, m)
			tabled(t, m)
			if l := peersOf(m); len(l) != peers {
				t.Fatalf("%d peers, meant %d", len(l), peers)
			}
			for seat := range peers {
				p, _ := peer.New(c, seat)
				if peerState(m.Peer(seat)) != peerState(p) {
					t.Errorf("%d peers, lags %v: seat %d is not as a new one", peers, lags, seat)
				}
				for no := -1; no < 3; no++ {
					answers(t, m.Deliver(no), api.ErrBagNone)
				}
				want, _ := p.Tick()
				got, e := m.Peer(seat).Tick()
				for i, x := range got {
					if e != api.OK || len(got) != peers-1 || !sameParcel(x, want[i]) {
						t.Fatalf("%d peers, lags %v: seat %d sends %v, meant %v", peers, lags, seat, got, want)
					}
				}
			}
		}
	}
}

// TestP24_1Ends: sessions of two and of six peers, of two and of five rungs, with the least and the greatest lags, play.
func TestP24_1Ends(t *testing.T) {
	for _, peers := range []int{2, 6} {
		for _, lags := range [][]int{{0, 1}, {0, 47}, {0, 1, 2, 3, 4}, {0, 44, 45, 46, 47}} {
			m := made(t, session(peers, lags...))
			for seat := range peers {
				answers(t, m.Command(seat, steer(seat), 1), api.OK)
			}
			answers(t, m.Quiet(60), api.OK)
			for seat := range peers {
				want := make([]int64, len(lags))
				for rung, lag := range lags {
					want[rung] = int64(60 - lag)
				}
				at(t, m, seat, want...)
				if got := len(m.Peer(seat).Held()); got != peers {
					t.Errorf("%d peers, lags %v: seat %d holds %d", peers, lags, seat, got)
				}
			}
		}
	}
}

// TestP24_1Apart: meshes beside each other, of one session and of others, know nothing of one another.
func TestP24_1Apart(t *testing.T) {
	c := session(3, 0, 2, 5)
	m, alone, third, strange := made(t, c), made(t, c), made(t, c), made(t, session(2, 0, 1))
	start := state(third)
	for i := range 40 {
		for _, x := range []*mesh.Mesh{m, alone} {
			x.Command(i%3, steer(i), leadOf(x.Peer(i%3))+2)
			x.Tick(i * i % 3)
			x.Deliver(i)
			x.Double(i + 1)
			x.Drop(i - 3)
			if i%5 == 0 {
				x.Quiet(1)
			}
		}
		strange.Command(1, say(i), leadOf(strange.Peer(1))+1)
		strange.Quiet(1)
		if i < 20 && state(third) != start {
			t.Fatalf("%d: what is done to one is seen in another", i)
		}
		if i >= 20 {
			third.Command(0, say(i), leadOf(third.Peer(0))+16)
			third.Tick(0)
		}
		if state(m) != state(alone) {
			t.Fatalf("%d: one is another one beside a third", i)
		}
	}
}
