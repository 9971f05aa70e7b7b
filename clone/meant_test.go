package clone_test

import (
	"encoding/binary"
	"math/rand"
	"slices"

	"echelon/api"
	"echelon/arena"
	"echelon/digest"
	"echelon/world"
)

// The forms here are the chapter's, by means of the library: its varints are just so, but that its readers take wider ones too.

func signed(l ...int) [][]byte {
	var forms [][]byte
	for _, n := range l {
		forms = append(forms, binary.AppendVarint(nil, int64(n)))
	}
	return forms
}

func unsigned(n uint64) []byte { return binary.AppendUvarint(nil, n) }

func flag(is bool) []byte {
	if is {
		return []byte{1}
	}
	return []byte{0}
}

// pieces are a world's bytes, a piece for each thing that is written, and the places of the pieces that are no numbers with a sign: flags and counts.
func pieces(w api.World) (l [][]byte, flags, counts []int) {
	l = append(l, []byte("W"), binary.AppendVarint(nil, w.Frame))
	for _, m := range w.Movers {
		l = append(l, signed(m.At.X, m.At.Y, m.Speed.X, m.Speed.Y, m.Push.X, m.Push.Y, m.Facing, m.Health, m.Energy, m.Cool, m.Out, m.Said)...)
		flags = append(flags, len(l))
		l = append(l, flag(m.Shield))
	}
	for _, s := range w.Scores {
		l = append(l, signed(s.Points, s.Hits, s.Outs, s.Streak)...)
	}
	counts = append(counts, len(l))
	l = append(l, unsigned(uint64(len(w.Shots))))
	for _, s := range w.Shots {
		l = append(l, signed(s.No, s.Owner, s.Power, s.At.X, s.At.Y, s.Speed.X, s.Speed.Y, s.Left)...)
	}
	counts = append(counts, len(l))
	l = append(l, unsigned(uint64(len(w.Pickups))))
	for _, p := range w.Pickups {
		l = append(l, signed(p.No, p.Spot, p.Kind)...)
	}
	return append(l, signed(w.NextNo)...), flags, counts
}

// meantBody are a world's bytes, without the sum.
func meantBody(w api.World) []byte {
	l, _, _ := pieces(w)
	return slices.Concat(l...)
}

// sealed are bytes, and the sum of them behind.
func sealed(body []byte) []byte {
	return binary.LittleEndian.AppendUint64(slices.Clone(body), digest.Of(body))
}

func meantBytes(w api.World) []byte { return sealed(meantBody(w)) }

// meantSession are a session's bytes.
func meantSession(c api.Config) []byte {
	b := slices.Concat(signed(c.Peers)...)
	b = append(b, unsigned(c.Seed)...)
	b = append(b, slices.Concat(signed(c.Arena.Cols, c.Arena.Rows)...)...)
	b = append(b, unsigned(uint64(len(c.Arena.Signs)))...)
	b = append(b, c.Arena.Signs...)
	b = append(b, unsigned(uint64(len(c.Lags)))...)
	return append(b, slices.Concat(signed(c.Lags...)...)...)
}

// guess goes through bytes as if they were a world's; where they are none it goes on all the same, as long as there are bytes.
type guess struct{ left []byte }

func (g *guess) number() int {
	n, size := binary.Varint(g.left)
	g.left = g.left[min(max(size, 1), len(g.left)):]
	return int(n)
}

func (g *guess) count() int {
	n, size := binary.Uvarint(g.left)
	g.left = g.left[min(max(size, 1), len(g.left)):]
	return int(min(n, uint64(len(g.left))))
}

func (g *guess) byte() byte {
	if len(g.left) == 0 {
		return 0
	}
	b := g.left[0]
	g.left = g.left[1:]
	return b
}

func (g *guess) point() api.Point {
	x := g.number()
	return at(x, g.number())
}

// meantParse is the world whose bytes these are, and whether they are any's: they are, if those of the guess are the same.
func meantParse(body []byte, seats int) (api.World, bool) {
	g := &guess{body}
	g.byte()
	w := api.World{Frame: int64(g.number())}
	for range seats {
		m := api.Mover{At: g.point()}
		m.Speed = g.point()
		m.Push = g.point()
		for _, to := range []*int{&m.Facing, &m.Health, &m.Energy, &m.Cool, &m.Out, &m.Said} {
			*to = g.number()
		}
		m.Shield = g.byte() == 1
		w.Movers = append(w.Movers, m)
	}
	for range seats {
		var s api.Score
		for _, to := range []*int{&s.Points, &s.Hits, &s.Outs, &s.Streak} {
			*to = g.number()
		}
		w.Scores = append(w.Scores, s)
	}
	for range g.count() {
		var s api.Shot
		for _, to := range []*int{&s.No, &s.Owner, &s.Power, &s.At.X, &s.At.Y, &s.Speed.X, &s.Speed.Y, &s.Left} {
			*to = g.number()
		}
		w.Shots = append(w.Shots, s)
	}
	for range g.count() {
		var p api.Pickup
		for _, to := range []*int{&p.No, &p.Spot, &p.Kind} {
			*to = g.number()
		}
		w.Pickups = append(w.Pickups, p)
	}
	w.NextNo = g.number()
	return w, slices.Equal(meantBody(w), body)
}

// meantDecode is what Decode answers, by the chapter's words.
func meantDecode(c api.Config, b []byte) (api.World, api.Errno) {
	if e := world.CheckConfig(c); e != 0 {
		return api.World{}, e
	}
	if len(b) < 8 {
		return api.World{}, 140
	}
	body := b[:len(b)-8]
	w, is := meantParse(body, c.Peers)
	if !is {
		return api.World{}, 140
	}
	if !slices.Equal(sealed(body), b) {
		return api.World{}, 141
	}
	if world.Check(c, w) != 0 {
		return api.World{}, 131
	}
	return w, 0
}

// someIn is a number of a range, often at its ends.
func someIn(r *rand.Rand, least, most int) int {
	switch r.Intn(5) {
	case 0:
		return least
	case 1:
		return most
	}
	return least + r.Intn(most-least+1)
}

func someWay(r *rand.Rand, most int) api.Point {
	return at(someIn(r, -most, most), someIn(r, -most, most))
}

func someMover(r *rand.Rand) api.Mover {
	m := api.Mover{At: someWay(r, bound), Facing: someIn(r, 0, 15), Said: someIn(r, 0, 255)}
	if r.Intn(4) == 0 {
		m.Out = someIn(r, 1, 30)
		return m
	}
	m.Speed, m.Push, m.Shield = someWay(r, 1024), someWay(r, 256), r.Intn(2) == 0
	m.Health, m.Energy, m.Cool = someIn(r, 1, 100), someIn(r, 0, 100), someIn(r, 0, 12)
	return m
}

// someRise is a number above another one, so that enough of them are below the greatest.
func someRise(r *rand.Rand, no int) int { return no + 1 + r.Intn(1<<r.Intn(34)) }

// someWorld is one that may be of the session.
func someWorld(r *rand.Rand, c api.Config) api.World {
	w := api.World{Frame: int64(someIn(r, 0, mostFrame))}
	for range c.Peers {
		w.Movers = append(w.Movers, someMover(r))
		w.Scores = append(w.Scores, api.Score{Points: someIn(r, -bound, bound), Hits: someIn(r, 0, bound), Outs: someIn(r, 0, bound), Streak: someIn(r, 0, bound)})
	}
	shotNo, pickupNo := 0, 0
	for range []int{0, 0, 1, 3, 20, 48}[r.Intn(6)] {
		shotNo = someRise(r, shotNo)
		w.Shots = append(w.Shots, api.Shot{
			No: shotNo, Owner: someIn(r, 0, c.Peers-1), Power: someIn(r, 1, 3), At: someWay(r, bound), Speed: someWay(r, 1536), Left: someIn(r, 1, 40),
		})
	}
	spots := len(arena.Spots(c.Arena))
	for _, spot := range r.Perm(spots)[:someIn(r, 0, min(spots, 8))] {
		pickupNo = someRise(r, pickupNo)
		w.Pickups = append(w.Pickups, api.Pickup{No: pickupNo, Spot: spot, Kind: someIn(r, 1, 3)})
	}
	w.NextNo = someIn(r, max(shotNo, pickupNo)+1, mostNo+1)
	return w
}

func someSession(r *rand.Rand) api.Config {
	standard := r.Intn(4)
	c := session(2+r.Intn([]int{3, 5, 5, 3}[standard]), standard, 0, 1+r.Intn(47))
	c.Seed = r.Uint64() >> r.Intn(64)
	return c
}
