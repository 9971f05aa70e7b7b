package mesh_test

import (
	"fmt"
	"math"
	"runtime"
	"slices"
	"testing"
	"time"

	"echelon/api"
	"echelon/mesh"
)

// TestP24_4Rounds: how many there may be of one call.
func TestP24_4Rounds(t *testing.T) {
	m := made(t, session(2, 0, 2))
	answers(t, m.Command(0, steer(1), 5), api.OK)
	ticks(t, m, 0, 3)
	for _, n := range []int{math.MinInt, math.MinInt + 1, -1 << 32, -201, -200, -1, 201, 202, 1 << 31, 1 << 32, 1<<32 + 1, math.MaxInt - 1, math.MaxInt} {
		refused(t, m, fmt.Sprint("Quiet ", n), api.ErrArg, func() api.Errno { return m.Quiet(n) })
	}
	refused(t, m, "Quiet 0", api.OK, func() api.Errno { return m.Quiet(0) }) // which is none, and changes nothing too
	for _, n := range []int{1, 2, 199, 200} {
		lead := leadOf(m.Peer(1))
		answers(t, m.Quiet(n), api.OK)
		if now := leadOf(m.Peer(1)); now != lead+int64(n) {
			t.Errorf("Quiet(%d): from %d to %d", n, lead, now)
		}
		flies(t, m)
	}
}

// TestP24_4OneRound of six, with nothing on its way: each ticks once, and each Turn is answered.
func TestP24_4OneRound(t *testing.T) {
	m := made(t, session(6, 0, 2))
	answers(t, m.Quiet(1), api.OK)
	flies(t, m)
	for p := range 6 {
		at(t, m, p, 1, 0)
		counts(t, m, p, api.Counters{Ticks: 1, Steps: 1, Sent: 10, Got: 10})
		if m.Peer(p).Least() != 1 {
			t.Errorf("Least of %d: %d", p, m.Peer(p).Least())
		}
	}
	ticks(t, m, 3, 1)
	if l := m.Flight(); l[0].No != 61 || len(l) != 5 {
		t.Errorf("%v", l)
	}
}

// byHand is a quiet round of Ticks and Deliveries.
func byHand(m *mesh.Mesh) {
	for p := range peersOf(m) {
		m.Tick(p)
	}
	for len(m.Flight()) > 0 {
		m.Deliver(m.Flight()[0].No)
	}
}

// onWay is the number of one of the parcels on their way; 0, if there is none.
func onWay(m *mesh.Mesh, which int) int {
	l := m.Flight()
	if len(l) == 0 {
		return 0
	}
	return l[which%len(l)].No
}

// stirred is a mesh behind a script: some has been lost, doubled, delivered out of order, much is on its way.
func stirred(t *testing.T, c api.Config, salt int) *mesh.Mesh {
	t.Helper()
	m := made(t, c)
	done := map[int]int{}
	for i := range 60 {
		p := (i*i + salt) % c.Peers
		m.Command(p, steer(i+salt), leadOf(m.Peer(p))+1+int64(i%16))
		if (i+salt)%4 > 0 || p > 0 {
			m.Tick(p)
		}
		kind, e := (i+salt)%4, api.OK
		switch no := onWay(m, i*7+salt); kind {
		case 0:
			e = m.Drop(no)
		case 1:
			e = m.Double(no)
		case 2:
			e = m.Deliver(no)
		}
		if e == api.OK {
			done[kind]++
		}
	}
	if len(m.Flight()) < 15 || done[0] < 10 || done[1] < 10 || done[2] < 10 {
		t.Fatalf("too little is on its way, or was lost, doubled, delivered: %d, %v", len(m.Flight()), done)
	}
	return m
}

// TestP24_4ByHand: a quiet round is the same as so many Ticks and Deliveries, with nothing on its way and with much, however many rounds are done in one call.
func TestP24_4ByHand(t *testing.T) {
	for _, peers := range []int{2, 3, 6} {
		for salt, lags := range lagsOf {
			c := session(peers, lags...)
			for _, m := range [][3]*mesh.Mesh{
				{made(t, c), made(t, c), made(t, c)},
				{stirred(t, c, salt), stirred(t, c, salt), stirred(t, c, salt)},
			} {
				for i := range 6 {
					for _, x := range m {
						x.Command(i%peers, steer(i), leadOf(x.Peer(i%peers))+3)
					}
					answers(t, m[0].Quiet(3), api.OK)
					for range 3 {
						answers(t, m[1].Quiet(1), api.OK)
						byHand(m[2])
					}
					was := state(m[0])
					if state(m[1]) != was {
						t.Fatalf("%d peers, lags %v: three rounds are not as three times one", peers, lags)
					}
					if state(m[2]) != was {
						t.Fatalf("%d peers, lags %v: quiet rounds are not as Ticks and Deliveries", peers, lags)
					}
					flies(t, m[0])
				}
				for _, x := range m { // and so are the numbers that are given next
					x.Tick(peers - 1)
				}
				if !sameParcels(m[0].Flight(), m[1].Flight()) || !sameParcels(m[0].Flight(), m[2].Flight()) {
					t.Fatalf("%d peers, lags %v: %v, %v, %v", peers, lags, m[0].Flight(), m[1].Flight(), m[2].Flight())
				}
			}
		}
	}
}

// TestP24_4LeastFirst: parcels that were there ahead of the round come ahead of its own, the least number first. A Turn that is older than what has come is answered by nothing: so how many Acks there were tells the order.
func TestP24_4LeastFirst(t *testing.T) {
	for _, x := range []struct {
		keep []int
		acks int // of peer 1, in the round
	}{
		{nil, 1}, {[]int{7}, 2}, {[]int{1}, 2}, {[]int{1, 2}, 3}, {[]int{2, 5, 7}, 4}, {[]int{1, 2, 3, 4, 5, 6, 7}, 8},
	} {
		m := made(t, session(2, 0, 2))
		ticks(t, m, 0, 7)
		for no := 1; no <= 7; no++ {
			if !slices.Contains(x.keep, no) {
				answers(t, m.Drop(no), api.OK)
			}
		}
		answers(t, m.Quiet(1), api.OK)
		if got := m.Peer(1).Counters(); got.Sent != 1+x.acks || got.Got != len(x.keep)+2 {
			t.Errorf("with %v on their way: %+v", x.keep, got)
		}
		flies(t, m)
	}
}

// TestP24_4Doubled: those that double others come by their own numbers.
func TestP24_4Doubled(t *testing.T) {
	m := made(t, session(2, 0, 2))
	ticks(t, m, 0, 2)
	answers(t, m.Double(1), api.OK) // 3
	answers(t, m.Double(2), api.OK) // 4
	answers(t, m.Drop(1), api.OK)
	answers(t, m.Quiet(1), api.OK)
	// 2 is answered; 3 and 4 are old then; 5 is the round's.
	if got := m.Peer(1).Counters(); got.Got != 5 || got.Sent != 3 {
		t.Errorf("%+v", got)
	}
	flies(t, m)
}

// TestP24_4SentMeanwhile: what is sent while parcels arrive comes in the same round.
func TestP24_4SentMeanwhile(t *testing.T) {
	m := made(t, session(3, 0, 2))
	answers(t, m.Command(0, steer(1), 1), api.OK)
	answers(t, m.Quiet(1), api.OK)
	flies(t, m)
	for other := 1; other < 3; other++ {
		linked(t, m, 0, other, api.LinkState{Own: 1, Acked: 1, Next: 1, Mark: 1, Met: true})
		holds(t, m, other, command(1, 0, 1, steer(1)))
	}
}

// TestP24_4Stalls: a Tick that stalls within a round changes nothing of the answer, nor that all others go on.
func TestP24_4Stalls(t *testing.T) {
	m := made(t, session(2, 0, 1))
	ticks(t, m, 0, 48)
	for _, p := range m.Flight() {
		answers(t, m.Drop(p.No), api.OK)
	}
	answers(t, m.Quiet(1), api.OK)
	if got := m.Peer(0).Counters(); got.Stalls != 1 || got.Ticks != 49 {
		t.Errorf("%+v", got)
	}
	at(t, m, 0, 48, 0)
	at(t, m, 1, 1, 0)
	flies(t, m)
	linked(t, m, 1, 0, api.LinkState{Next: 1, Mark: 48, Met: true})
}

// TestP24_4HoweverTheyRun: the answer hangs on nothing but the mesh, with as many processors as there are, and with few.
func TestP24_4HoweverTheyRun(t *testing.T) {
	c := session(6, 0, 1, 3, 9, 20)
	want := ""
	defer runtime.GOMAXPROCS(runtime.GOMAXPROCS(0))
	for _, n := range []int{1, 2, 3, 8, 1, 16} {
		runtime.GOMAXPROCS(n)
		for range 4 {
			m := stirred(t, c, 3)
			for i := range 5 {
				for p := range 6 {
					m.Command(p, steer(i+p), leadOf(m.Peer(p))+1)
				}
				answers(t, m.Quiet(4), api.OK)
			}
			ticks(t, m, 2, 1)
			got := state(m)
			if want == "" {
				want = got
			}
			if got != want {
				t.Fatalf("with %d processors it ends otherwise", n)
			}
		}
	}
}

// TestP24_4GoroutinesEnd: none is left behind.
func TestP24_4GoroutinesEnd(t *testing.T) {
	m := made(t, session(6, 0, 2))
	was := runtime.NumGoroutine()
	answers(t, m.Quiet(200), api.OK)
	for i := 0; runtime.NumGoroutine() > was; i++ {
		if i == 1000 { // one that has told its end may yet be there for a moment
			t.Fatalf("%d goroutines, there were %d", runtime.NumGoroutine(), was)
		}
		time.Sleep(time.Millisecond)
	}
}

// TestP24_4ManyOnTheirWay: a long parcel, doubled often, takes no long round.
func TestP24_4ManyOnTheirWay(t *testing.T) {
	m := made(t, session(2, 0, 2))
	for range 48 {
		for frame := leadOf(m.Peer(0)) + 1; frame <= leadOf(m.Peer(0))+16; frame++ {
			for m.Command(0, steer(int(frame)), frame) == api.OK {
			}
		}
		answers(t, m.Tick(0), api.OK)
	}
	for range 20000 {
		answers(t, m.Double(48), api.OK)
	}
	for no := 100; no < 20000; no++ {
		if no%3 > 0 {
			answers(t, m.Drop(no), api.OK)
		}
	}
	answers(t, m.Quiet(1), api.OK)
	flies(t, m)
	if got := m.Peer(1).Counters(); got.Refused != 0 || got.Got < 6000 || len(m.Peer(1).Held()) != len(m.Table()) {
		t.Errorf("%+v, %d of %d are held", got, len(m.Peer(1).Held()), len(m.Table()))
	}
}
