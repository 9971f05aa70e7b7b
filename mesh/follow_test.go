package mesh_test

import (
	"math/rand"
	"slices"
	"testing"

	"echelon/api"
	"echelon/clone"
	"echelon/digest"
	"echelon/mesh"
	"echelon/peer"
	"echelon/verb"
	"echelon/wire"
)

// without are the commands of a list that are not in another one.
func without(all, others []api.Command) []api.Command {
	return slices.DeleteFunc(slices.Clone(all), func(c api.Command) bool { return slices.Contains(others, c) })
}

// followsW1 holds a peer's copies to W1.
func followsW1(t *testing.T, c api.Config, p *peer.Peer) {
	t.Helper()
	f, held := p.Frames(), p.Held()
	for rung, frame := range f {
		missed := p.Missed(rung)
		w, e := p.World(rung)
		if want := ref(t, c, frame, without(held, missed)...); e != api.OK || !clone.Same(w, want) {
			t.Fatalf("W1: at %v, rung %d is not Ref(%d, ..): %v %d, meant %v", f, rung, frame, w, e, want)
		}
		var behind []api.Command // what the rung behind it misses
		if rung < len(f)-1 {
			behind = p.Missed(rung + 1)
		} else if len(missed) > 0 {
			t.Fatalf("W1: at %v, the hindmost rung has missed %v", f, missed)
		}
		if left := without(behind, missed); len(left) > 0 {
			t.Fatalf("W1: at %v, rung %d has missed %v, and the rung ahead of it has not", f, rung+1, left)
		}
		for _, x := range without(missed, behind) {
			if x.Frame <= f[rung+1] || x.Frame > frame {
				t.Fatalf("W1: at %v, rung %d alone has missed %v", f, rung, x)
			}
		}
		if left := without(missed, held); len(left) > 0 {
			t.Fatalf("W1: %v are missed, but not held", left)
		}
	}
}

// followsW2 holds the peers of a mesh to W2: those two by two, and each one against all that was laid.
func followsW2(t *testing.T, c api.Config, m *mesh.Mesh) {
	t.Helper()
	l, laid := peersOf(m), m.Table()
	for _, p := range l {
		for frame := hindOf(p); frame >= 0; frame -= 5 {
			want, _ := clone.Digest(c, ref(t, c, frame, laid...))
			if got, is := p.Digest(frame); got != want || !is {
				t.Fatalf("W2: frame %d: %x %t, meant %x", frame, got, is, want)
			}
		}
		if _, is := p.Digest(hindOf(p) + 1); is {
			t.Fatalf("W2: at %v, a frame that was not passed has a sum", p.Frames())
		}
		for frame := range min(hindOf(p), hindOf(l[0])) + 1 {
			a, _ := p.Digest(frame)
			if b, _ := l[0].Digest(frame); a != b {
				t.Fatalf("W2: frame %d: %x and %x", frame, a, b)
			}
		}
		held := p.Held()
		for i, x := range held {
			if !slices.Contains(laid, x) || slices.Contains(held[:i], x) {
				t.Fatalf("W2: %v is held, but was not laid, or is held twice", x)
			}
		}
		for _, x := range without(laid, held) {
			if x.Frame <= hindOf(p) {
				t.Fatalf("W2: at %v, %v has not come", p.Frames(), x)
			}
		}
	}
}

// watched is a mesh whose every call is held to W3 to W6 and W8.
type watched struct {
	t      *testing.T
	c      api.Config
	mesh   *mesh.Mesh
	last   int // the greatest number that was seen on its way
	stalls int
	finds  int
	steps  int // the most of a Tick
}

func watch(t *testing.T, c api.Config) *watched {
	t.Helper()
	return &watched{t: t, c: c, mesh: made(t, c)}
}

// before is how a peer stood ahead of a call.
type before struct {
	frames []int64
	n      api.Counters
	least  int64
	held   []api.Command
}

func (w *watched) before() []before {
	var out []before
	for _, p := range peersOf(w.mesh) {
		out = append(out, before{p.Frames(), p.Counters(), p.Least(), p.Held()})
	}
	return out
}

// ticked holds a Tick of a peer to W4 and W5.
func (w *watched) ticked(p *peer.Peer, was before) (stalled bool) {
	w.t.Helper()
	lead, hind, lag := was.frames[0], was.frames[len(was.frames)-1], int64(w.c.Lags[len(w.c.Lags)-1])
	now, then, n := leadOf(p), hindOf(p), p.Counters()
	stalled = n.Stalls > was.n.Stalls
	if n.Ticks != was.n.Ticks+1 || stalled != (lead-then == 48) || stalled && now != lead || !stalled && now != lead+1 {
		w.t.Fatalf("W4: Tick from %v to %v: %+v", was.frames, p.Frames(), n)
	}
	if then < hind || then < min(hind+1, now-lag, was.least) || then > was.least {
		w.t.Fatalf("W4: Tick from %v to %v, Least %d", was.frames, p.Frames(), was.least)
	}
	k, steps, m := len(w.c.Lags), n.Steps-was.n.Steps, p.Last()
	if steps != m.Steps || steps > k*48+4 || m.Found == 0 && steps > k+3 {
		w.t.Fatalf("W5: %d steps, found by %d, of %d rungs", steps, m.Found, k)
	}
	w.steps = max(w.steps, steps)
	w.finds += n.Late - was.n.Late
	w.stalls += n.Stalls - was.n.Stalls
	return stalled
}

// still holds a peer that has not ticked to have run nothing.
func (w *watched) still(p *peer.Peer, was before) {
	w.t.Helper()
	n := p.Counters()
	if !slices.Equal(p.Frames(), was.frames) || n.Steps != was.n.Steps || n.Ticks != was.n.Ticks || n.Copies != was.n.Copies {
		w.t.Fatalf("W5: without a Tick, from %v to %v", was.frames, p.Frames())
	}
}

// always holds the whole mesh to W3, to W6, and to the first sentence of W4.
func (w *watched) always() {
	w.t.Helper()
	for seat, p := range peersOf(w.mesh) {
		if n := p.Counters(); n.Refused > 0 {
			w.t.Fatalf("W3: seat %d has refused %d", seat, n.Refused)
		}
		if hindOf(p) > p.Least() {
			w.t.Fatalf("W4: at %v, Least is %d", p.Frames(), p.Least())
		}
		if p.Kept() > w.c.Peers*3*112 {
			w.t.Fatalf("W6: %d are kept", p.Kept())
		}
	}
	for _, x := range w.mesh.Flight() {
		if x.No <= w.last {
			continue
		}
		w.last = x.No
		if d, e := wire.Decode(x.Bytes); e != api.OK || d.From != x.From || d.To != x.To || len(d.Commands) > 336 {
			w.t.Fatalf("W6: %+v %d", d, e)
		}
	}
}

// laid is what W8 says that a Command answers.
func (w *watched) laid(c api.Call, was before) api.Errno {
	here := 0
	for _, x := range was.held {
		if x.Frame == c.Frame && x.Peer == c.Peer {
			here++
		}
	}
	lead := was.frames[0]
	switch e := verb.Check(c.Order); {
	case e != api.OK:
		return e
	case c.Frame < lead+1 || c.Frame > lead+16:
		return api.ErrStamp
	case here >= 3:
		return api.ErrFull
	}
	return api.OK
}

// call does one call of a script, of seats that there are.
func (w *watched) call(c api.Call) {
	w.t.Helper()
	was, table := w.before(), w.mesh.Table()
	e := w.mesh.Run([]api.Call{c})[0]
	for seat, p := range peersOf(w.mesh) {
		if c.Kind != api.CallTick || c.Peer != seat {
			w.still(p, was[seat])
		} else if stalled := w.ticked(p, was[seat]); stalled != (e == api.ErrStall) || !stalled && e != api.OK {
			w.t.Fatalf("W4: Tick from %v to %v: %d", was[seat].frames, p.Frames(), e)
		}
	}
	if c.Kind == api.CallCommand {
		if want := w.laid(c, was[c.Peer]); e != want {
			w.t.Fatalf("W8: %+v at %v: %d, meant %d", c, was[c.Peer].frames, e, want)
		}
		if e == api.OK {
			table = append(table, command(c.Frame, c.Peer, was[c.Peer].n.Accepted+1, c.Order))
		}
	}
	if !slices.Equal(w.mesh.Table(), table) {
		w.t.Fatalf("W8: behind %+v, which answers %d, the Table is %v, meant %v", c, e, w.mesh.Table(), table)
	}
	w.always()
}

// round does one that is quiet.
func (w *watched) round() {
	w.t.Helper()
	was := w.before()
	answers(w.t, w.mesh.Quiet(1), api.OK)
	for seat, p := range peersOf(w.mesh) {
		w.ticked(p, was[seat])
	}
	w.always()
	flies(w.t, w.mesh)
}

func (w *watched) followsW1() {
	w.t.Helper()
	for _, p := range peersOf(w.mesh) {
		followsW1(w.t, w.c, p)
	}
}

// drawn plays a drawn script, W1 and W2 asked each so many calls.
func (w *watched) drawn(r *rand.Rand, calls, each int) {
	w.t.Helper()
	n := drawnNet(r, w.c.Peers)
	for i := range calls {
		c := drawnCall(r, n, w.mesh, w.c.Peers, w.last)
		if (c.Kind == api.CallTick || c.Kind == api.CallCommand) && w.mesh.Peer(c.Peer) == nil {
			continue
		}
		w.call(c)
		if i%each == 0 {
			w.followsW1()
			followsW2(w.t, w.c, w.mesh)
		}
		if r.Intn(60) == 0 {
			w.round()
		}
	}
	w.followsW1()
	followsW2(w.t, w.c, w.mesh)
}

func (w *watched) leastLead() int64 {
	out := int64(1) << 50
	for _, p := range peersOf(w.mesh) {
		out = min(out, leadOf(p))
	}
	return out
}

func (w *watched) leastHind() int64 {
	out := int64(1) << 50
	for _, p := range peersOf(w.mesh) {
		out = min(out, hindOf(p))
	}
	return out
}

// settles goes on with quiet rounds, held to W7, till all that was laid has run everywhere: nobody misses anything then, and all are alike.
func (w *watched) settles() {
	w.t.Helper()
	lag := w.c.Lags[len(w.c.Lags)-1]
	for n := 0; w.leastLead() < int64(lag); n++ {
		if n >= lag {
			w.t.Fatalf("W7: %d rounds, and a leading copy is at %d", n, w.leastLead())
		}
		w.round()
	}
	end := int64(0)
	for _, c := range w.mesh.Table() {
		end = max(end, c.Frame)
	}
	for hinds := []int64{w.leastHind()}; w.leastHind() < end; {
		w.round()
		hinds = append(hinds, w.leastHind())
		if n := len(hinds); n > 3 && hinds[n-1] <= hinds[n-4] {
			w.t.Fatalf("W7: the least hindmost frames behind each round are %v", hinds)
		}
	}
	laid := w.mesh.Table()
	for seat, p := range peersOf(w.mesh) {
		for rung := range w.c.Lags {
			misses(w.t, w.mesh, seat, rung)
		}
		if held := p.Held(); len(held) != len(laid) || len(without(laid, held)) > 0 {
			w.t.Fatalf("seat %d holds %v, of %v", seat, held, laid)
		}
		for rung, frame := range p.Frames() {
			if x, _ := p.World(rung); !clone.Same(x, ref(w.t, w.c, frame, laid...)) {
				w.t.Fatalf("seat %d: rung %d is not what all commands make of it", seat, rung)
			}
		}
	}
	followsW2(w.t, w.c, w.mesh)
}

// TestP24_7AnyScript: whatever is laid, lost, doubled and turned about. Enough of what is told must have happened.
func TestP24_7AnyScript(t *testing.T) {
	r := rand.New(rand.NewSource(2477))
	finds, stalls := 0, 0
	for range 40 {
		w := watch(t, drawnSession(r))
		w.drawn(r, 120*w.c.Peers, 40)
		w.settles()
		finds += w.finds
		stalls += w.stalls
	}
	if finds < 300 || stalls < 100 {
		t.Errorf("%d commands were found, %d Ticks have stalled", finds, stalls)
	}
}

// TestP24_7AfterEachCall: W1 and W2 behind every single call of a script.
func TestP24_7AfterEachCall(t *testing.T) {
	r := rand.New(rand.NewSource(24777))
	finds := 0
	for i := range 8 {
		c := session(2+i%3, [][]int{{0, 2, 5}, {0, 1}, {0, 1, 2, 3, 4}, {0, 3, 12}}[i%4]...)
		c.Seed = r.Uint64()
		w := watch(t, c)
		w.drawn(r, 150, 1)
		w.settles()
		finds += w.finds
	}
	if finds < 20 {
		t.Errorf("%d commands were found", finds)
	}
}

// TestP24_7Silent: one is silent for long, all that was sent is lost, and all go on when it comes back.
func TestP24_7Silent(t *testing.T) {
	for _, lags := range lagsOf {
		for _, peers := range []int{2, 6} {
			w := watch(t, session(peers, lags...))
			for i := range 60 {
				for p := 1; p < peers; p++ {
					w.call(lay(p, steer(i+p), leadOf(w.mesh.Peer(p))+1+int64(i%16)))
					w.call(tick(p))
				}
				for _, x := range w.mesh.Flight() {
					answers(t, w.mesh.Drop(x.No), api.OK)
				}
			}
			for p := 1; p < peers; p++ {
				if f := w.mesh.Peer(p).Frames(); f[0] != 48 || f[len(f)-1] != 0 || w.mesh.Peer(p).Counters().Stalls != 12 {
					t.Errorf("%d peers, lags %v: seat %d is at %v", peers, lags, p, f)
				}
			}
			w.call(lay(0, steer(0), 16))
			w.settles()
		}
	}
}

// TestP24_7Full: as many commands as can be laid, nothing of which comes for long: no more are kept and sent than W6 says.
func TestP24_7Full(t *testing.T) {
	for _, peers := range []int{2, 6} {
		w := watch(t, session(peers, 0, 1, 2, 3, 4))
		fill := func() {
			for p := range peers {
				lead := leadOf(w.mesh.Peer(p))
				for frame := lead + 1; frame <= lead+16; frame++ {
					for w.mesh.Command(p, steer(int(frame)), frame) == api.OK {
					}
				}
			}
			w.always()
		}
		for range 50 {
			fill()
			for p := range peers {
				w.call(tick(p))
			}
			for _, x := range w.mesh.Flight() {
				answers(t, w.mesh.Drop(x.No), api.OK)
			}
		}
		if n := len(w.mesh.Table()); n != peers*3*64 {
			t.Fatalf("%d were laid", n)
		}
		for range 6 {
			fill()
			w.round()
		}
		w.followsW1()
		w.settles()
	}
}

// TestP24_7DocExamples plays those examples of the whole that ask a mesh.
func TestP24_7DocExamples(t *testing.T) {
	// 1
	m := made(t, small(0, 2))
	runs(t, m, []api.Call{lay(0, say(9), 2), tick(0)}, api.OK, api.OK)
	flies(t, m, "1:0>1")
	runs(t, m, []api.Call{deliver(1)}, api.OK)
	holds(t, m, 1, command(2, 0, 1, say(9)))
	linked(t, m, 1, 0, api.LinkState{Next: 2, Mark: 1, Met: true})
	runs(t, m, []api.Call{tick(1), tick(1)}, api.OK, api.OK)
	at(t, m, 1, 2, 0)
	misses(t, m, 1, 0)

	// 2
	m = made(t, small(0, 2, 5))
	east := api.Order{Verb: api.Steer, A: 8}
	runs(t, m, []api.Call{lay(0, east, 2), tick(0), tick(1), tick(1), tick(1), deliver(1)}, make([]api.Errno, 6)...)
	misses(t, m, 1, 0, command(2, 0, 1, east))
	misses(t, m, 1, 1)
	runs(t, m, []api.Call{tick(1)}, api.OK)
	misses(t, m, 1, 0)
	if l := m.Peer(1).Last(); l.Wrong.Movers[0].At != (api.Point{X: 6144, Y: 6144}) || l.Right.Movers[0].At != (api.Point{X: 6880, Y: 6144}) {
		t.Errorf("%+v", l)
	}
	counts(t, m, 1, api.Counters{Ticks: 4, Steps: 7, Copies: 1, Late: 1, Sent: 5, Got: 1})

	// 3
	m = made(t, small(0, 2))
	runs(t, m, []api.Call{lay(0, api.Order{Verb: api.Aim, A: 4}, 1), tick(0), drop(1), tick(0), double(2), deliver(3), deliver(2)}, make([]api.Errno, 7)...)
	holds(t, m, 1, command(1, 0, 1, api.Order{Verb: api.Aim, A: 4}))
	runs(t, m, []api.Call{deliver(1)}, api.ErrBagNone)
	flies(t, m, "4:1>0")
	linked(t, m, 0, 1, api.LinkState{Own: 1, Next: 1})

	// 4
	m = made(t, small(0, 2))
	halt := api.Order{Verb: api.Halt}
	runs(t, m, []api.Call{lay(0, halt, 0), lay(0, halt, 17), lay(0, halt, 16), lay(0, say(1), 16), lay(0, say(2), 16), lay(0, say(3), 16), lay(2, halt, 1)},
		api.ErrStamp, api.ErrStamp, api.OK, api.OK, api.OK, api.ErrFull, api.ErrMeshPeer)
	tabled(t, m, command(16, 0, 1, halt), command(16, 0, 2, say(1)), command(16, 0, 3, say(2)))
	runs(t, m, []api.Call{tick(2)}, api.ErrMeshPeer)
}

// TestP24_7DocQuiet plays those that have quiet rounds.
func TestP24_7DocQuiet(t *testing.T) {
	// 5
	m := made(t, small(0, 2))
	runs(t, m, []api.Call{lay(0, api.Order{Verb: api.Fire, A: 1}, 3), lay(1, api.Order{Verb: api.Steer, A: -3, B: 1}, 2)}, api.OK, api.OK)
	answers(t, m.Quiet(6), api.OK)
	for p := range 2 {
		at(t, m, p, 6, 4)
		if sum, is := m.Peer(p).Digest(4); digest.Print(sum) != "cf6d41c58a118bb6" || !is {
			t.Errorf("%x %t", sum, is)
		}
		if _, is := m.Peer(p).Digest(5); is {
			t.Error("frame 5 has a sum")
		}
	}

	// 6
	m = made(t, small(0, 1))
	runs(t, m, []api.Call{lay(0, api.Order{Verb: api.Fire, A: 3}, 1)}, api.OK)
	answers(t, m.Quiet(14), api.OK)
	if w, _ := m.Peer(0).World(1); w.Frame != 13 || len(w.Shots) != 1 || w.Movers[0].Energy != 33 || w.Movers[1].Energy != 63 {
		t.Errorf("%+v", w)
	}

	// 7
	c := session(3, 0, 1, 3)
	c.Arena, c.Seed = mapOf(2), 5
	m = made(t, c)
	runs(t, m, []api.Call{lay(1, api.Order{Verb: api.Dash, A: 4}, 2), tick(0), tick(1), tick(0), tick(1)}, make([]api.Errno, 5)...)
	at(t, m, 0, 2, 1, 0)
	answers(t, m.Quiet(1), api.OK)
	answers(t, m.Quiet(4), api.OK)
	at(t, m, 0, 7, 6, 4)
	at(t, m, 2, 5, 4, 2)
	linked(t, m, 0, 1, api.LinkState{Next: 2, Mark: 7, Met: true})
	linked(t, m, 0, 2, api.LinkState{Next: 1, Mark: 5, Met: true})

	// 8
	c = small(0, 47)
	c.Seed = 1
	m = made(t, c)
	ticks(t, m, 0, 8)
	answers(t, m.Quiet(3), api.OK)
	at(t, m, 0, 11, 0)
	at(t, m, 1, 3, 0)

	// 9
	m = made(t, small(0, 2))
	runs(t, m, []api.Call{tick(0), tick(0), deliver(2), deliver(1)}, make([]api.Errno, 4)...)
	flies(t, m, "3:1>0")
	runs(t, m, []api.Call{deliver(3)}, api.OK)
	linked(t, m, 1, 0, api.LinkState{Next: 1, Mark: 2, Met: true})
	counts(t, m, 0, api.Counters{Ticks: 2, Steps: 2, Sent: 2, Got: 1})
}
