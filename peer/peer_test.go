package peer_test

import (
	"fmt"
	"math"
	"slices"
	"strings"
	"testing"

	"echelon/api"
	"echelon/arena"
	"echelon/clone"
	"echelon/digest"
	"echelon/peer"
	"echelon/wire"
	"echelon/world"
)

// farInts and farFrames are numbers at which a reckoning may go wrong: at half a word, at the bounds of their type.
var (
	farInts   = []int{math.MinInt, math.MinInt + 1, -1 << 32, -1<<32 + 1, -2, 1 << 31, 1 << 32, 1<<32 + 1, math.MaxInt - 1, math.MaxInt}
	farFrames = []int64{math.MinInt64, math.MinInt64 + 1, math.MinInt64 + 16, math.MinInt64 + 17, -1 << 40, -1 << 32, -1, 1 << 32, 1<<32 + 1, 1 << 40, 1 << 62, math.MaxInt64 - 16, math.MaxInt64 - 1, math.MaxInt64}
)

// badOrders are some that verb.Check refuses.
var badOrders = []api.Order{{}, {Verb: -1}, {Verb: 8}, {Verb: 9}, {Verb: api.Steer, A: 9}, {Verb: api.Steer, B: -9}, {Verb: api.Steer, C: 1}, {Verb: api.Halt, A: 1}, {Verb: api.Fire}, {Verb: api.Fire, A: 4}, {Verb: api.Say, A: 256}, {Verb: math.MinInt, A: math.MaxInt}}

// lagsOf are lags of each number of rungs, as little and as great as they may be.
var lagsOf = [][]int{{0, 1}, {0, 2}, {0, 47}, {0, 1, 2}, {0, 2, 5}, {0, 46, 47}, {0, 1, 2, 3}, {0, 3, 20, 40}, {0, 1, 2, 3, 4}, {0, 2, 5, 9, 14}, {0, 44, 45, 46, 47}}

// session is one on the standard map that has six starts.
func session(peers int, lags ...int) api.Config {
	a, _ := arena.Standard(1)
	return api.Config{Peers: peers, Seed: 7, Arena: a, Lags: lags}
}

// small is the session of the document's examples.
func small(lags ...int) api.Config {
	a, _ := arena.Standard(3)
	return api.Config{Peers: 2, Seed: 7, Arena: a, Lags: lags}
}

func number(c api.Config) uint64 {
	n, _ := clone.Session(c)
	return n
}

func say(what int) api.Order { return api.Order{Verb: api.Say, A: what} }

// steer is an order that every later frame tells of: a mover stands elsewhere by it.
func steer(n int) api.Order { return api.Order{Verb: api.Steer, A: n%17 - 8, B: 3} }

func command(frame int64, seat, seq int, o api.Order) api.Command {
	return api.Command{Frame: frame, Peer: seat, Seq: seq, Order: o}
}

func made(t *testing.T, c api.Config, seat int) *peer.Peer {
	t.Helper()
	p, e := peer.New(c, seat)
	if p == nil || e != api.OK {
		t.Fatalf("New(%d peers, lags %v, %d): %v %d", c.Peers, c.Lags, seat, p, e)
	}
	return p
}

// lays lays orders for one frame.
func lays(t *testing.T, p *peer.Peer, frame int64, orders ...api.Order) {
	t.Helper()
	for _, o := range orders {
		if e := p.Command(o, frame); e != api.OK {
			t.Fatalf("Command(%v, %d) at %v: %d", o, frame, p.Frames(), e)
		}
	}
}

// noLay holds a peer to refuse an order, and to be unchanged then.
func noLay(t *testing.T, p *peer.Peer, o api.Order, frame int64, want api.Errno) {
	t.Helper()
	was := state(p)
	if e := p.Command(o, frame); e != want {
		t.Errorf("Command(%v, %d) at %v: %d, meant %d", o, frame, p.Frames(), e, want)
	}
	if state(p) != was {
		t.Errorf("Command(%v, %d), which is refused, has changed something", o, frame)
	}
}

// ticks lets a peer tick so often, and answers what the last Tick sends.
func ticks(t *testing.T, p *peer.Peer, n int) []api.Parcel {
	t.Helper()
	var out []api.Parcel
	for range n {
		var e api.Errno
		if out, e = p.Tick(); e != api.OK {
			t.Fatalf("Tick at %v: %d", p.Frames(), e)
		}
	}
	return out
}

// stalls is a Tick in which the leading copy stays.
func stalls(t *testing.T, p *peer.Peer) []api.Parcel {
	t.Helper()
	out, e := p.Tick()
	if e != api.ErrStall {
		t.Fatalf("Tick at %v: %d, meant %d", p.Frames(), e, api.ErrStall)
	}
	return out
}

// takes lets a peer receive a datagram, which is not refused, and is answered so often.
func takes(t *testing.T, p *peer.Peer, b []byte, answers int) []api.Parcel {
	t.Helper()
	out, e := p.Receive(b)
	if e != api.OK || len(out) != answers {
		t.Fatalf("Receive(% x) at %v, %v: %v %d, meant %d answers", b, p.Frames(), p.Links(), out, e, answers)
	}
	return out
}

// refuses holds a peer to refuse bytes, and to be unchanged then but for Refused.
func refuses(t *testing.T, p *peer.Peer, b []byte, want api.Errno) {
	t.Helper()
	was, n := rest(p), p.Counters()
	out, e := p.Receive(b)
	if len(out) != 0 || e != want {
		t.Errorf("Receive(% x) at %v: %v %d, meant %d", b, p.Frames(), out, e, want)
	}
	n.Refused++
	if rest(p) != was || p.Counters() != n {
		t.Errorf("Receive(% x), which is refused, has changed something: %v, meant %v", b, p.Counters(), n)
	}
}

func leadOf(p *peer.Peer) int64 { return p.Frames()[0] }

func hindOf(p *peer.Peer) int64 {
	f := p.Frames()
	return f[len(f)-1]
}

// at holds the copies to be at these frames.
func at(t *testing.T, p *peer.Peer, frames ...int64) {
	t.Helper()
	if got := p.Frames(); !slices.Equal(got, frames) {
		t.Errorf("Frames: %v, meant %v", got, frames)
	}
}

func counts(t *testing.T, p *peer.Peer, want api.Counters) {
	t.Helper()
	if got := p.Counters(); got != want {
		t.Errorf("Counters: %+v, meant %+v", got, want)
	}
}

func holds(t *testing.T, p *peer.Peer, want ...api.Command) {
	t.Helper()
	if got := p.Held(); !slices.Equal(got, want) {
		t.Errorf("Held: %v, meant %v", got, want)
	}
}

// rest is all that a peer tells but its counters.
func rest(p *peer.Peer) string {
	var s strings.Builder
	fmt.Fprintln(&s, p.Frames(), p.Held(), p.Least(), p.Links(), p.Kept(), p.Last())
	for rung := -1; rung <= len(p.Frames()); rung++ {
		w, e := p.World(rung)
		fmt.Fprintln(&s, w, e, p.Missed(rung))
	}
	for frame := int64(-1); frame <= hindOf(p)+1; frame++ {
		d, is := p.Digest(frame)
		fmt.Fprintln(&s, d, is)
	}
	return s.String()
}

// state is all that a peer tells.
func state(p *peer.Peer) string { return fmt.Sprint(p.Counters(), rest(p)) }

// turn is a datagram, with commands of these frames, which are numbered from first on.
func turn(c api.Config, from, to int, mark int64, first, ack int, frames ...int64) api.Datagram {
	d := api.Datagram{Kind: api.Turn, Session: number(c), From: from, To: to, Mark: mark, First: first, Ack: ack}
	for i, frame := range frames {
		d.Commands = append(d.Commands, command(frame, from, first+i, steer(first+i)))
	}
	return d
}

func ackOf(c api.Config, from, to, ack int) api.Datagram {
	return api.Datagram{Kind: api.Ack, Session: number(c), From: from, To: to, Ack: ack}
}

func bytesOf(t *testing.T, d api.Datagram) []byte {
	t.Helper()
	b, e := wire.Encode(d)
	if e != api.OK {
		t.Fatalf("Encode(%+v): %d", d, e)
	}
	return b
}

// sealed is a datagram's beginning with its right sum behind it.
func sealed(ahead ...byte) []byte {
	sum := digest.Of(ahead)
	out := slices.Clone(ahead)
	for range 8 {
		out = append(out, byte(sum))
		sum >>= 8
	}
	return out
}

// raw is sealed bytes of a kind, a session and two seats, and of what stands behind them.
func raw(kind byte, session uint64, from, to byte, behind ...byte) []byte {
	out := []byte{0x65, kind}
	for range 8 {
		out = append(out, byte(session))
		session >>= 8
	}
	return sealed(append(append(out, from, to), behind...)...)
}

// is holds parcels to be just these datagrams, by seats as they stand here.
func is(t *testing.T, parcels []api.Parcel, want ...api.Datagram) {
	t.Helper()
	if len(parcels) != len(want) {
		t.Fatalf("%d parcels, meant %d", len(parcels), len(want))
	}
	for i, d := range want {
		x := parcels[i]
		if x.No != 0 || x.From != d.From || x.To != d.To || !slices.Equal(x.Bytes, bytesOf(t, d)) {
			got, e := wire.Decode(x.Bytes)
			t.Errorf("parcel %d: %d from %d to %d with %+v (%d), meant %+v", i, x.No, x.From, x.To, got, e, d)
		}
	}
}

// ref is the world behind a frame, by commands.
func ref(t *testing.T, c api.Config, frame int64, commands ...api.Command) api.World {
	t.Helper()
	w, e := world.Ref(c, frame, commands)
	if e != api.OK {
		t.Fatalf("Ref(%d, %v): %d", frame, commands, e)
	}
	return w
}

func isWorld(t *testing.T, p *peer.Peer, rung int, want api.World) {
	t.Helper()
	if w, e := p.World(rung); e != api.OK || !clone.Same(w, want) {
		t.Errorf("World(%d): %v %d, meant %v", rung, w, e, want)
	}
}

func misses(t *testing.T, p *peer.Peer, rung int, commands ...api.Command) {
	t.Helper()
	if got := p.Missed(rung); !slices.Equal(got, commands) {
		t.Errorf("Missed(%d): %v, meant %v", rung, got, commands)
	}
}

func sameMoves(a, b api.Moves) bool {
	return a.Steps == b.Steps && a.Found == b.Found && a.Copied == b.Copied && slices.Equal(a.Late, b.Late) && clone.Same(a.Wrong, b.Wrong) && clone.Same(a.Right, b.Right)
}

// did holds Last to be this.
func did(t *testing.T, p *peer.Peer, want api.Moves) {
	t.Helper()
	if got := p.Last(); !sameMoves(got, want) {
		t.Errorf("Last: %+v, meant %+v", got, want)
	}
}

// TestP22_1Examples plays the chapter's examples.
func TestP22_1Examples(t *testing.T) {
	c := small(0, 2)
	p, q := made(t, c, 0), made(t, c, 1)
	lays(t, p, 1, say(7))
	noLay(t, p, say(7), 17, api.ErrStamp)
	noLay(t, p, say(7), 0, api.ErrStamp)
	noLay(t, p, api.Order{Verb: 9}, 1, api.ErrVerbNone)
	out := ticks(t, p, 1)
	is(t, out, api.Datagram{Kind: api.Turn, Session: number(c), From: 0, To: 1, Mark: 1, First: 1, Commands: []api.Command{command(1, 0, 1, say(7))}})
	at(t, p, 1, 0)
	back := takes(t, q, out[0].Bytes, 1)
	is(t, back, ackOf(c, 1, 0, 1))
	holds(t, q, command(1, 0, 1, say(7)))
	if q.Least() != 1 {
		t.Errorf("Least: %d", q.Least())
	}
	takes(t, q, out[0].Bytes, 0)
	takes(t, p, back[0].Bytes, 0)
	if l := p.Links()[1]; l.Own != 1 || l.Acked != 1 {
		t.Errorf("%+v", l)
	}
	ticks(t, p, 47)
	if last := stalls(t, p); len(last) != 1 {
		t.Errorf("%v", last)
	}
}

// badSessions are those that CheckConfig refuses, each ground of it.
func badSessions() map[string]api.Config {
	with := func(change func(*api.Config)) api.Config {
		c := session(2, 0, 2)
		change(&c)
		return c
	}
	three, _ := arena.Standard(3)
	return map[string]api.Config{
		"nothing at all":        {},
		"no peers":              with(func(c *api.Config) { c.Peers = 0 }),
		"one peer":              with(func(c *api.Config) { c.Peers = 1 }),
		"seven peers":           with(func(c *api.Config) { c.Peers = 7 }),
		"peers below 0":         with(func(c *api.Config) { c.Peers = -2 }),
		"the least of peers":    with(func(c *api.Config) { c.Peers = math.MinInt }),
		"the greatest of peers": with(func(c *api.Config) { c.Peers = math.MaxInt }),
		"more peers than starts": with(func(c *api.Config) {
			c.Peers, c.Arena = 5, three
		}),
		"no arena":        with(func(c *api.Config) { c.Arena = api.Arena{} }),
		"a wrong arena":   with(func(c *api.Config) { c.Arena.Cols++ }),
		"signs that lack": with(func(c *api.Config) { c.Arena.Signs = c.Arena.Signs[1:] }),
		"no lags":         with(func(c *api.Config) { c.Lags = nil }),
		"one lag":         with(func(c *api.Config) { c.Lags = []int{0} }),
		"six lags":        with(func(c *api.Config) { c.Lags = []int{0, 1, 2, 3, 4, 5} }),
		"a first lag":     with(func(c *api.Config) { c.Lags = []int{1, 2} }),
		"lags alike":      with(func(c *api.Config) { c.Lags = []int{0, 2, 2} }),
		"lags that fall":  with(func(c *api.Config) { c.Lags = []int{0, 3, 2} }),
		"a lag of 48":     with(func(c *api.Config) { c.Lags = []int{0, 48} }),
		"a lag below 0":   with(func(c *api.Config) { c.Lags = []int{0, -1} }),
		"two lags of 0":   with(func(c *api.Config) { c.Lags = []int{0, 0} }),
	}
}

// TestP22_1Sessions: what CheckConfig refuses is refused, whatever the seat is.
func TestP22_1Sessions(t *testing.T) {
	for name, c := range badSessions() {
		want := world.CheckConfig(c)
		if want == api.OK {
			t.Fatalf("%s: CheckConfig takes it", name)
		}
		for _, seat := range append([]int{-1, 0, 1, 2, c.Peers - 1, c.Peers, 6}, farInts...) {
			if p, e := peer.New(c, seat); p != nil || e != want {
				t.Errorf("%s, seat %d: %v %d, meant %d", name, seat, p, e, want)
			}
		}
	}
}

func TestP22_1Seats(t *testing.T) {
	for peers := 2; peers <= 6; peers++ {
		c := session(peers, 0, 2)
		for _, seat := range append([]int{-1, peers, peers + 1, 6, 7}, farInts...) {
			if p, e := peer.New(c, seat); p != nil || e != api.ErrPeerSeat {
				t.Errorf("New(%d peers, %d): %v %d", peers, seat, p, e)
			}
		}
		for seat := range peers {
			made(t, c, seat)
		}
	}
}

// TestP22_1Begun: of each number of peers and of rungs, on each seat.
func TestP22_1Begun(t *testing.T) {
	for peers := 2; peers <= 6; peers++ {
		for _, lags := range lagsOf {
			c := session(peers, lags...)
			start, _ := world.New(c)
			sum, _ := clone.Digest(c, start)
			for seat := range peers {
				p := made(t, c, seat)
				at(t, p, make([]int64, len(lags))...)
				for rung := range lags {
					isWorld(t, p, rung, start)
					misses(t, p, rung)
				}
				holds(t, p)
				counts(t, p, api.Counters{})
				did(t, p, api.Moves{})
				links := slices.Repeat([]api.LinkState{{Next: 1}}, peers)
				links[seat] = api.LinkState{}
				if got := p.Links(); !slices.Equal(got, links) {
					t.Errorf("Links: %v, meant %v", got, links)
				}
				if p.Least() != 0 || p.Kept() != 0 {
					t.Errorf("Least %d, Kept %d", p.Least(), p.Kept())
				}
				if got, is := p.Digest(0); got != sum || !is {
					t.Errorf("Digest(0): %x %t, meant %x", got, is, sum)
				}
				if got, is := p.Digest(1); got != 0 || is {
					t.Errorf("Digest(1): %x %t", got, is)
				}
			}
		}
	}
}

// TestP22_1Number: the links are of the session's number, and each part of a session counts in it.
func TestP22_1Number(t *testing.T) {
	c := session(3, 0, 2, 5)
	p := made(t, c, 1)
	is(t, ticks(t, p, 1), turn(c, 1, 0, 1, 1, 0), turn(c, 1, 2, 1, 1, 0))
	takes(t, p, bytesOf(t, turn(c, 0, 1, 1, 1, 0)), 1)
	takes(t, p, bytesOf(t, ackOf(c, 2, 1, 0)), 0)
	other, _ := arena.Standard(2)
	for name, change := range map[string]func(*api.Config){
		"peers": func(c *api.Config) { c.Peers = 4 },
		"seed":  func(c *api.Config) { c.Seed++ },
		"arena": func(c *api.Config) { c.Arena = other },
		"lags":  func(c *api.Config) { c.Lags = []int{0, 2, 6} },
		"rungs": func(c *api.Config) { c.Lags = []int{0, 2} },
	} {
		strange := c
		change(&strange)
		if number(strange) == number(c) {
			t.Fatalf("%s: the same number", name)
		}
		refuses(t, p, bytesOf(t, turn(strange, 0, 1, 2, 1, 0)), api.ErrStranger)
		is(t, ticks(t, made(t, strange, 1), 1)[:1], turn(strange, 1, 0, 1, 1, 0))
	}
}
