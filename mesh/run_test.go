package mesh_test

import (
	"math"
	"slices"
	"testing"

	"echelon/api"
	"echelon/mesh"
)

func lay(p int, o api.Order, frame int64) api.Call {
	return api.Call{Kind: api.CallCommand, Peer: p, Order: o, Frame: frame}
}

func tick(p int) api.Call { return api.Call{Kind: api.CallTick, Peer: p} }

func deliver(no int) api.Call { return api.Call{Kind: api.CallDeliver, Peer: no} }

func drop(no int) api.Call { return api.Call{Kind: api.CallDrop, Peer: no} }

func double(no int) api.Call { return api.Call{Kind: api.CallDouble, Peer: no} }

// runs holds a script to these answers.
func runs(t *testing.T, m *mesh.Mesh, script []api.Call, want ...api.Errno) {
	t.Helper()
	if got := m.Run(script); !slices.Equal(got, want) {
		t.Errorf("Run(%v): %v, meant %v", script, got, want)
	}
}

func TestP24_5NoCalls(t *testing.T) {
	m := made(t, session(2, 0, 2))
	was := state(m)
	runs(t, m, nil)
	runs(t, m, []api.Call{})
	if state(m) != was {
		t.Error("a script without calls has changed something")
	}
}

// TestP24_5EachKind: a script of each kind, calls that are refused among them.
func TestP24_5EachKind(t *testing.T) {
	m := made(t, session(3, 0, 2))
	runs(t, m, []api.Call{lay(1, say(5), 3)}, api.OK)
	tabled(t, m, command(3, 1, 1, say(5)))
	runs(t, m, []api.Call{tick(1)}, api.OK)
	at(t, m, 1, 1, 0)
	flies(t, m, "1:1>0", "2:1>2")
	runs(t, m, []api.Call{deliver(2)}, api.OK)
	holds(t, m, 2, command(3, 1, 1, say(5)))
	flies(t, m, "1:1>0", "3:2>1")
	runs(t, m, []api.Call{drop(1)}, api.OK)
	flies(t, m, "3:2>1")
	holds(t, m, 0)
	runs(t, m, []api.Call{double(3)}, api.OK)
	flies(t, m, "3:2>1", "4:2>1")
	runs(t, m, []api.Call{
		tick(3), tick(0), lay(0, say(1), 1), lay(0, say(1), 2), lay(-1, say(1), 2), lay(2, api.Order{}, 1), lay(2, api.Order{Verb: api.Fire}, 1),
		deliver(1), deliver(4), deliver(4), drop(4), double(4), double(0), drop(-1), {}, deliver(3), {Kind: 6}, tick(-1), tick(2),
	},
		api.ErrMeshPeer, api.OK, api.ErrStamp, api.OK, api.ErrMeshPeer, api.ErrVerbNone, api.ErrVerbOperand,
		api.ErrBagNone, api.OK, api.ErrBagNone, api.ErrBagNone, api.ErrBagNone, api.ErrBagNone, api.ErrBagNone, api.ErrArg, api.OK, api.ErrArg, api.ErrMeshPeer, api.OK)
	tabled(t, m, command(3, 1, 1, say(5)), command(2, 0, 1, say(1)))
	flies(t, m, "5:0>1", "6:0>2", "7:2>0", "8:2>1")
}

// TestP24_5NoSuchKind: whatever else such a call has, it is ErrArg, and nothing is done.
func TestP24_5NoSuchKind(t *testing.T) {
	m := made(t, session(2, 0, 2))
	ticks(t, m, 0, 3)
	was := state(m)
	for _, kind := range []int{math.MinInt, math.MinInt + 1, -1 << 32, -5, -2, -1, 0, 6, 7, 8, 9, 240, 1 << 31, 1 << 32, 1<<32 + 1, 1<<32 + 2, 1<<32 + 3, math.MaxInt - 1, math.MaxInt} {
		var script []api.Call
		var want []api.Errno
		for _, p := range append([]int{0, 1, 2, 3}, farInts...) {
			script = append(script, api.Call{Kind: kind, Peer: p, Order: say(1), Frame: 4}, api.Call{Kind: kind, Peer: p})
			want = append(want, api.ErrArg, api.ErrArg)
		}
		runs(t, m, script, want...)
		if state(m) != was {
			t.Fatalf("Kind %d has changed something", kind)
		}
	}
}

// TestP24_5FieldsOfOthers: fields that a kind does not have are passed over.
func TestP24_5FieldsOfOthers(t *testing.T) {
	m, twin := made(t, session(2, 0, 2)), made(t, session(2, 0, 2))
	for i, c := range []api.Call{tick(0), tick(1), tick(0), double(1), drop(2), deliver(3), deliver(1), tick(5), drop(99)} {
		full := c
		full.Order, full.Frame = badOrders[i%len(badOrders)], farFrames[i%len(farFrames)]
		if a, b := m.Run([]api.Call{full}), twin.Run([]api.Call{c}); !slices.Equal(a, b) || state(m) != state(twin) {
			t.Errorf("%v: %v, meant %v", full, a, b)
		}
	}
}

// TestP24_5AsCalls: a script is the same as its calls, cut wherever.
func TestP24_5AsCalls(t *testing.T) {
	c := session(3, 0, 2, 5)
	var script []api.Call
	for i := range 400 {
		switch i % 8 {
		case 0:
			script = append(script, lay(i%4, steer(i), int64(i/24+i%20)))
		case 1, 2, 3:
			script = append(script, tick((i*7/3)%4))
		case 4, 5:
			script = append(script, deliver(i*2/3))
		case 6:
			script = append(script, drop(i/2), api.Call{Kind: i % 9})
		case 7:
			script = append(script, double(i*2/3+1), deliver(i/2+1))
		}
	}
	byCalls := made(t, c)
	var want []api.Errno
	seen := map[api.Errno]int{}
	for _, x := range script {
		e := api.ErrArg
		switch x.Kind {
		case 1:
			e = byCalls.Command(x.Peer, x.Order, x.Frame)
		case 2:
			e = byCalls.Tick(x.Peer)
		case 3:
			e = byCalls.Deliver(x.Peer)
		case 4:
			e = byCalls.Drop(x.Peer)
		case 5:
			e = byCalls.Double(x.Peer)
		}
		want = append(want, e)
		seen[e]++
	}
	for _, e := range []api.Errno{api.OK, api.ErrArg, api.ErrStamp, api.ErrMeshPeer, api.ErrBagNone} {
		if seen[e] < 5 {
			t.Errorf("%d was answered %d times", e, seen[e])
		}
	}
	for _, cut := range []int{len(script), 1, 2, 7, 100} {
		m := made(t, c)
		var got []api.Errno
		for part := range slices.Chunk(script, cut) {
			answered := m.Run(part)
			if len(answered) != len(part) {
				t.Fatalf("%d answers of %d calls", len(answered), len(part))
			}
			got = append(got, answered...)
		}
		if !slices.Equal(got, want) {
			t.Fatalf("cut by %d: %v, meant %v", cut, got, want)
		}
		if state(m) != state(byCalls) {
			t.Fatalf("cut by %d: it ends otherwise", cut)
		}
	}
}

// TestP24_5Stall: what a Tick of a script answers is told, and the script goes on.
func TestP24_5Stall(t *testing.T) {
	m := made(t, session(2, 0, 2))
	script := slices.Repeat([]api.Call{tick(0)}, 50)
	want := append(make([]api.Errno, 48), api.ErrStall, api.ErrStall)
	runs(t, m, append(script, tick(1)), append(want, api.OK)...)
	if len(m.Flight()) != 51 {
		t.Errorf("%d parcels", len(m.Flight()))
	}
}
