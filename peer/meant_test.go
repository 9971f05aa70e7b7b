package peer_test

import (
	"bytes"
	"math/rand"
	"slices"
	"testing"

	"echelon/api"
	"echelon/clone"
	"echelon/peer"
	"echelon/verb"
	"echelon/wire"
	"echelon/world"
)

// meant is the chapter, and the document's section on the mesh, read a second time, by other means: no copy, no log and no list of the unacknowledged is kept, but all commands that there are, which rungs have missed each, and how far each other peer is.
type meant struct {
	c      api.Config
	seat   int
	frames []int64
	held   []heldCommand
	links  []other // by seats
	n      api.Counters
	last   api.Moves
}

type heldCommand struct {
	api.Command
	missed [5]bool // by rungs
}

// other is what is known of another peer.
type other struct {
	came, acked int
	mark        int64
	met         bool
}

func meantOf(c api.Config, seat int) *meant {
	return &meant{c: c, seat: seat, frames: make([]int64, len(c.Lags)), links: make([]other, c.Peers)}
}

func (m *meant) lead() int64 { return m.frames[0] }

func (m *meant) hind() int64 { return m.frames[len(m.frames)-1] }

// those are the commands of which a function says so, in order.
func (m *meant) those(is func(heldCommand) bool) []api.Command {
	var out []api.Command
	for _, x := range m.held {
		if is(x) {
			out = append(out, x.Command)
		}
	}
	slices.SortFunc(out, func(a, b api.Command) int {
		for _, d := range []int64{a.Frame - b.Frame, int64(a.Peer - b.Peer), int64(a.Seq - b.Seq)} {
			if d != 0 {
				return int(d)
			}
		}
		return 0
	})
	return out
}

// own are those that were laid, by their numbers.
func (m *meant) own() []api.Command {
	var out []api.Command
	for _, x := range m.held {
		if x.Peer == m.seat {
			out = append(out, x.Command)
		}
	}
	return out
}

func (m *meant) on(frame int64, seat int) int {
	return len(m.those(func(x heldCommand) bool { return x.Frame == frame && x.Peer == seat }))
}

func (m *meant) missedBy(rung int) []api.Command {
	return m.those(func(x heldCommand) bool { return rung >= 0 && rung < len(m.frames) && x.missed[rung] })
}

func (m *meant) hold(c api.Command) {
	x := heldCommand{Command: c}
	for rung, frame := range m.frames {
		x.missed[rung] = frame >= c.Frame
	}
	m.held = append(m.held, x)
}

func (m *meant) least() int64 {
	out := int64(1 << 50)
	for seat, x := range m.links {
		if seat != m.seat {
			out = min(out, x.mark)
		}
	}
	return out
}

func (m *meant) states() []api.LinkState {
	var out []api.LinkState
	for seat, x := range m.links {
		s := api.LinkState{Own: len(m.own()), Acked: x.acked, Next: x.came + 1, Mark: x.mark, Met: x.met}
		if seat == m.seat {
			s = api.LinkState{}
		}
		out = append(out, s)
	}
	return out
}

func (m *meant) command(o api.Order, frame int64) api.Errno {
	if e := verb.Check(o); e != 0 {
		return e
	}
	ahead := int64(0)
	for n := int64(1); n <= 16; n++ {
		if m.lead()+n == frame {
			ahead = n
		}
	}
	switch {
	case ahead == 0:
		return 221
	case m.on(frame, m.seat) == 3:
		return 222
	}
	m.n.Accepted++
	m.hold(api.Command{Frame: frame, Peer: m.seat, Seq: len(m.own()) + 1, Order: o})
	return 0
}

// tick answers the datagrams that are sent.
func (m *meant) tick() ([]api.Datagram, api.Errno) {
	lag := int64(m.c.Lags[len(m.c.Lags)-1])
	to := m.hind()
	for range 4 {
		if to < m.least() && to < m.lead()+1-lag {
			to++
		}
	}
	stall := m.lead()-to == 48
	m.run(to, !stall)
	m.n.Ticks++
	m.n.Steps += m.last.Steps
	m.n.Copies += m.last.Copied
	m.n.Late += len(m.last.Late)
	var out []api.Datagram
	for seat, x := range m.links {
		if seat != m.seat {
			out = append(out, api.Datagram{Kind: 1, Session: number(m.c), From: m.seat, To: seat, Mark: m.lead(), First: x.acked + 1, Commands: m.own()[x.acked:], Ack: x.came})
		}
	}
	m.n.Sent += len(out)
	if stall {
		m.n.Stalls++
		return out, 223
	}
	return out, 0
}

// run lets the copies go on, the hindmost one to a frame.
func (m *meant) run(hind int64, on bool) {
	lead := m.lead()
	to := lead
	if on {
		to++
	}
	var targets []int64
	for _, lag := range m.c.Lags {
		targets = append(targets, max(0, to-int64(lag)))
	}
	targets[len(targets)-1] = hind
	m.last = api.Moves{}
	m.last.Found, m.last.Late = m.finder(targets)
	m.last.Copied = m.last.Found
	for rung := range targets {
		from := m.frames[rung]
		if rung < m.last.Found {
			from = targets[rung+1]
		}
		m.last.Steps += int(targets[rung] - from)
	}
	if m.last.Found > 0 {
		m.last.Wrong, m.last.Right = m.behind(lead, 0), m.behind(lead, m.last.Found)
		for i := range m.held {
			for rung := range m.last.Found {
				m.held[i].missed[rung] = m.held[i].missed[m.last.Found]
			}
		}
	}
	m.frames = targets
}

// finder is the rung that finds something on the way to the targets, and what; 0, if none does.
func (m *meant) finder(targets []int64) (int, []api.Command) {
	for rung := len(targets) - 1; rung > 0; rung-- {
		late := m.those(func(x heldCommand) bool {
			return x.Frame > m.frames[rung] && x.Frame <= targets[rung] && x.missed[rung-1] && !x.missed[rung]
		})
		if len(late) > 0 {
			return rung, late
		}
	}
	return 0, nil
}

// behind is the world behind a frame, of what a rung has not missed.
func (m *meant) behind(frame int64, rung int) api.World {
	w, _ := world.Ref(m.c, frame, m.those(func(x heldCommand) bool { return !x.missed[rung] }))
	return w
}

// refusal is why a datagram is not taken, by the document's section on the mesh.
func (m *meant) refusal(d api.Datagram) api.Errno {
	if d.Session != number(m.c) {
		return 180
	}
	if d.To != m.seat || d.From == m.seat || d.From >= m.c.Peers {
		return 181
	}
	x := m.links[d.From]
	if d.Kind == 1 && d.First > x.came+1 {
		return 182
	}
	if d.Ack > len(m.own()) {
		return 183
	}
	if d.Kind == 2 {
		return 0
	}
	if d.Mark > m.lead()+48 {
		return 183
	}
	for _, c := range m.own() {
		if c.Seq > max(x.acked, d.Ack) && c.Frame <= d.Mark-48 {
			return 183
		}
	}
	for i, c := range d.Commands {
		if c.Seq <= x.came {
			continue
		}
		here := m.on(c.Frame, d.From) + 1
		for _, ahead := range d.Commands[:i] {
			if ahead.Seq > x.came && ahead.Frame == c.Frame {
				here++
			}
		}
		if c.Frame <= x.mark || c.Frame > d.Mark+16 || here > 3 {
			return 183
		}
	}
	return 0
}

// receive answers the datagrams that are sent.
func (m *meant) receive(b []byte) ([]api.Datagram, api.Errno) {
	d, e := wire.Decode(b)
	if e == 0 {
		e = m.refusal(d)
	}
	if e != 0 {
		m.n.Refused++
		return nil, e
	}
	m.n.Got++
	was := m.links[d.From]
	now := other{came: was.came, acked: max(was.acked, d.Ack), mark: max(was.mark, d.Mark), met: true}
	for _, c := range d.Commands {
		if c.Seq > now.came {
			m.hold(c)
			now.came++
		}
	}
	m.links[d.From] = now
	if d.Kind == 2 || now.came == was.came && now.acked == was.acked && now.mark == was.mark {
		return nil, 0
	}
	m.n.Sent++
	return []api.Datagram{{Kind: 2, Session: number(m.c), From: m.seat, To: d.From, Ack: now.came}}, 0
}

// drawnOrder is mostly one that may be, and does something.
func drawnOrder(r *rand.Rand) api.Order {
	switch r.Intn(10) {
	case 0:
		return api.Order{Verb: api.Halt}
	case 1:
		return api.Order{Verb: api.Aim, A: r.Intn(16)}
	case 2, 3:
		return api.Order{Verb: api.Fire, A: 1 + r.Intn(3)}
	case 4:
		return api.Order{Verb: api.Dash, A: r.Intn(16)}
	case 5:
		return api.Order{Verb: api.Shield, A: r.Intn(2)}
	case 6:
		return api.Order{Verb: api.Say, A: r.Intn(256)}
	}
	return api.Order{Verb: api.Steer, A: r.Intn(17) - 8, B: r.Intn(17) - 8}
}

// drawnLay is an order and a frame, mostly such as may be laid.
func drawnLay(r *rand.Rand, lead int64) (api.Order, int64) {
	o, frame := drawnOrder(r), lead+1+r.Int63n(1+r.Int63n(16))
	switch r.Intn(20) {
	case 0:
		o = badOrders[r.Intn(len(badOrders))]
	case 1:
		frame = lead + []int64{-1, 0, 1, 16, 17}[r.Intn(5)]
	case 2:
		frame = farFrames[r.Intn(len(farFrames))]
	}
	return o, frame
}

// pace is how the others of a drawn game are: how far behind or ahead of lead their marks are, about, and how often they acknowledge.
type pace struct {
	behind int64
	deaf   int
}

func drawnPace(r *rand.Rand) pace {
	return pace{behind: []int64{-40, -10, -2, 0, 3, 8, 20, 40, 60}[r.Intn(9)], deaf: 1 + r.Intn(6)}
}

// drawnTurn is one of another peer, mostly one that is taken, or is refused by little.
func drawnTurn(r *rand.Rand, c api.Config, seat, from int, s api.LinkState, lead int64, x pace) api.Datagram {
	d := api.Datagram{Kind: api.Turn, Session: number(c), From: from, To: seat}
	d.First = max(1, s.Next-r.Intn(4))
	if r.Intn(25) == 0 {
		d.First = s.Next + 1
	}
	d.Mark = max(0, s.Mark-r.Int63n(2), min(s.Mark+r.Int63n(6), lead-x.behind))
	switch r.Intn(40) {
	case 0:
		d.Mark = lead + 47 + r.Int63n(3)
	case 1:
		d.Mark = 1 << 40
	}
	d.Ack = s.Own
	if r.Intn(x.deaf) > 0 {
		d.Ack = s.Acked + r.Intn(s.Own-s.Acked+1)
	}
	if r.Intn(40) == 0 {
		d.Ack = s.Own + 1
	}
	for i := range r.Intn(5) {
		y := api.Command{Peer: from, Seq: d.First + i, Order: drawnOrder(r)}
		lo, hi := s.Mark+1, d.Mark+16
		if r.Intn(30) == 0 {
			lo, hi = lo-1, hi+1
		}
		y.Frame = min(max(1, lo+r.Int63n(max(1, hi-lo+1))), 1<<40)
		d.Commands = append(d.Commands, y)
	}
	return d
}

// drawnBytes are those of a datagram, seldom of none.
func drawnBytes(t *testing.T, r *rand.Rand, c api.Config, seat int, links []api.LinkState, lead int64, paces []pace) []byte {
	t.Helper()
	from := (seat + 1 + r.Intn(c.Peers-1)) % c.Peers
	d := drawnTurn(r, c, seat, from, links[from], lead, paces[from])
	if r.Intn(6) == 0 {
		d = ackOf(c, from, seat, d.Ack)
	}
	switch r.Intn(60) {
	case 0:
		d.Session ^= 1 << r.Intn(64)
	case 1:
		d.To = (from + 1 + r.Intn(5)) % 6
	case 2:
		d = ackOf(c, (seat+1+r.Intn(5))%6, seat, r.Intn(3))
	case 3:
		d = ackOf(c, seat, from, 0)
	}
	b := bytesOf(t, d)
	switch r.Intn(60) {
	case 0:
		b[r.Intn(len(b))] ^= byte(1 + r.Intn(255))
	case 1:
		b = b[:r.Intn(len(b))]
	case 2: // whatever, with its right sum
		b = b[:len(b)-8]
		b[r.Intn(len(b))] ^= byte(1 + r.Intn(255))
		b = sealed(b...)
	}
	return b
}

// sends holds parcels to be those of datagrams.
func sends(t *testing.T, got []api.Parcel, want []api.Datagram) {
	t.Helper()
	if len(got) != len(want) {
		t.Fatalf("%d parcels, meant %d", len(got), len(want))
	}
	for i, d := range want {
		if x := got[i]; x.No != 0 || x.From != d.From || x.To != d.To || !bytes.Equal(x.Bytes, bytesOf(t, d)) {
			t.Fatalf("parcel %+v, meant %+v", x, d)
		}
	}
}

// agrees holds all that a peer tells against what is meant, but its copies.
func agrees(t *testing.T, p *peer.Peer, m *meant) {
	t.Helper()
	if f := p.Frames(); !slices.Equal(f, m.frames) {
		t.Fatalf("Frames: %v, meant %v", f, m.frames)
	}
	if got, want := p.Held(), m.those(func(heldCommand) bool { return true }); !slices.Equal(got, want) {
		t.Fatalf("Held: %v, meant %v", got, want)
	}
	if got, want := p.Kept(), len(m.those(func(x heldCommand) bool { return x.Frame > m.hind() })); got != want {
		t.Fatalf("Kept: %d, meant %d", got, want)
	}
	for rung := -1; rung <= len(m.frames); rung++ {
		if got := p.Missed(rung); !slices.Equal(got, m.missedBy(rung)) {
			t.Fatalf("Missed(%d): %v, meant %v", rung, got, m.missedBy(rung))
		}
	}
	if got := p.Links(); !slices.Equal(got, m.states()) {
		t.Fatalf("Links: %v, meant %v", got, m.states())
	}
	if got := p.Counters(); got != m.n {
		t.Fatalf("Counters: %+v, meant %+v", got, m.n)
	}
	if got := p.Last(); p.Least() != m.least() || !sameMoves(got, m.last) {
		t.Fatalf("Least %d, meant %d; Last %+v, meant %+v", p.Least(), m.least(), got, m.last)
	}
}

// agreesOnWorlds holds each copy, and the hindmost one's sum, against what is run anew.
func agreesOnWorlds(t *testing.T, p *peer.Peer, m *meant) {
	t.Helper()
	for rung, frame := range m.frames {
		w, e := p.World(rung)
		want := m.behind(frame, rung)
		if e != api.OK || !clone.Same(w, want) {
			t.Fatalf("World(%d): %v %d, meant %v", rung, w, e, want)
		}
		sum, _ := clone.Digest(m.c, want)
		if got, is := p.Digest(frame); rung == len(m.frames)-1 && (got != sum || !is) {
			t.Fatalf("Digest(%d): %x %t, meant %x", frame, got, is, sum)
		}
	}
	if got, is := p.Digest(m.hind() + 1); got != 0 || is {
		t.Fatalf("Digest(%d): %x %t", m.hind()+1, got, is)
	}
}

// drawnLags are as many as there may be, near one another or far.
func drawnLags(r *rand.Rand) []int {
	if r.Intn(3) == 0 {
		return lagsOf[r.Intn(len(lagsOf))]
	}
	lags := []int{0}
	for n := 1 + r.Intn(4); len(lags) <= n; {
		lags = append(lags, lags[len(lags)-1]+1+r.Intn(1+r.Intn(11)))
	}
	return lags
}

// tally counts how often each answer, and each finder, was seen.
type tally struct {
	lays, ticks, gets map[api.Errno]int
	finders           map[int]int
	answers           int
}

// call is one drawn call, at both; it tells whether it was a Tick.
func call(t *testing.T, r *rand.Rand, p *peer.Peer, m *meant, paces []pace, seen *tally) bool {
	t.Helper()
	switch n := r.Intn(10); {
	case n < 3:
		o, frame := drawnLay(r, m.lead())
		e, e2 := p.Command(o, frame), m.command(o, frame)
		if e != e2 {
			t.Fatalf("Command(%v, %d) at %v: %d, meant %d", o, frame, m.frames, e, e2)
		}
		seen.lays[e2]++
	case n < 7:
		b := drawnBytes(t, r, m.c, m.seat, m.states(), m.lead(), paces)
		out, e := p.Receive(b)
		want, e2 := m.receive(b)
		if e != e2 {
			d, _ := wire.Decode(b)
			t.Fatalf("Receive(%+v) at %v, %v: %d, meant %d", d, m.frames, m.states(), e, e2)
		}
		sends(t, out, want)
		spoilParcels(out)
		spoil(b, 0xee)
		seen.gets[e2]++
		seen.answers += len(want)
	default:
		out, e := p.Tick()
		want, e2 := m.tick()
		if e != e2 {
			t.Fatalf("Tick to %v: %d, meant %d", m.frames, e, e2)
		}
		sends(t, out, want)
		spoilParcels(out)
		seen.ticks[e2]++
		seen.finders[m.last.Found]++
		return true
	}
	return false
}

// TestP22_7Meant plays at random, and holds every answer, and all that is told behind it, against what is meant. Each answer must have been seen often enough.
func TestP22_7Meant(t *testing.T) {
	r := rand.New(rand.NewSource(227))
	seen := &tally{map[api.Errno]int{}, map[api.Errno]int{}, map[api.Errno]int{}, map[int]int{}, 0}
	for range 120 {
		c := session(2+r.Intn(5), drawnLags(r)...)
		c.Seed = r.Uint64()
		seat := r.Intn(c.Peers)
		p, m := made(t, c, seat), meantOf(c, seat)
		paces := make([]pace, c.Peers)
		slow := drawnPace(r)
		for i := range paces {
			paces[i] = slow
			if r.Intn(3) == 0 {
				paces[i] = drawnPace(r)
			}
		}
		for range 250 {
			ticked := call(t, r, p, m, paces, seen)
			agrees(t, p, m)
			if ticked && r.Intn(4) == 0 {
				agreesOnWorlds(t, p, m)
			}
		}
		agreesOnWorlds(t, p, m)
	}
	t.Logf("Command %v, Tick %v, Receive %v with %d answers, found by %v", seen.lays, seen.ticks, seen.gets, seen.answers, seen.finders)
	for _, e := range []api.Errno{0, 70, 71, 221, 222} {
		if seen.lays[e] < 40 {
			t.Errorf("Command answered %d only %d times", e, seen.lays[e])
		}
	}
	for _, e := range []api.Errno{0, 160, 161, 162, 180, 181, 182, 183} {
		if seen.gets[e] < 30 {
			t.Errorf("Receive answered %d only %d times", e, seen.gets[e])
		}
	}
	for _, e := range []api.Errno{0, 223} {
		if seen.ticks[e] < 200 {
			t.Errorf("Tick answered %d only %d times", e, seen.ticks[e])
		}
	}
	for rung := range 5 {
		if seen.finders[rung] < 40 {
			t.Errorf("rung %d was the finder only %d times", rung, seen.finders[rung])
		}
	}
}
