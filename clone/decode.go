package clone

import (
	"bytes"
	"math"

	"echelon/api"
	"echelon/code"
	"echelon/world"
)

// mostCount is how many shots or pickups bytes may speak of; a shot and a pickup have so many bytes at least, one a number.
const (
	mostCount   = math.MaxInt32
	leastShot   = 8
	leastPickup = 3
)

// Decode reads such bytes (P14.3).
func Decode(c api.Config, b []byte) (api.World, api.Errno) {
	if errno := world.CheckConfig(c); errno != api.OK {
		return api.World{}, errno
	}
	if len(b) < sumSize {
		return api.World{}, api.ErrCloneForm
	}
	body, sum := b[:len(b)-sumSize], b[len(b)-sumSize:]
	w, is := parse(body, c.Peers)
	if !is {
		return api.World{}, api.ErrCloneForm
	}
	if !bytes.Equal(sum, sumBytes(body)) {
		return api.World{}, api.ErrCloneSum
	}
	if errno := world.Check(c, w); errno != api.OK {
		return api.World{}, errno
	}
	return w, api.OK
}

// parse is the world that has these bytes, without the sum, and so many movers and scores; false, if none has.
func parse(b []byte, seats int) (api.World, bool) {
	r := &reader{Reader: code.NewReader(b)}
	w := r.world(seats)
	return w, !r.spoilt && r.Done() == api.OK
}

// reader takes the parts of a world up. It is spoilt, if something is well written, and yet no world has it there.
type reader struct {
	*code.Reader
	spoilt bool
}

// world takes a whole one up. What stands in a literal is taken up in the order in which it stands there.
func (r *reader) world(seats int) api.World {
	r.head()
	return api.World{
		Frame:   r.Int(),
		Movers:  some(seats, r.mover),
		Scores:  some(seats, r.score),
		Shots:   some(r.count(leastShot), r.shot),
		Pickups: some(r.count(leastPickup), r.pickup),
		NextNo:  r.number(),
	}
}

func (r *reader) head() {
	if r.Byte() != head {
		r.spoilt = true
	}
}

// some takes so many things up, one behind the other.
func some[T any](n int, take func() T) []T {
	var l []T
	for range n {
		l = append(l, take())
	}
	return l
}

// count takes up how many things follow, each of so many bytes at least. If there are too few bytes for them it is 0, so that nobody begins upon more things than there may be.
func (r *reader) count(least int) int {
	n := r.Uint()
	if n > mostCount || n > uint64(r.Left()/least) {
		r.spoilt = true
		return 0
	}
	return int(n)
}

func (r *reader) mover() api.Mover {
	return api.Mover{
		At:     r.point(),
		Speed:  r.point(),
		Push:   r.point(),
		Facing: r.number(),
		Health: r.number(),
		Energy: r.number(),
		Cool:   r.number(),
		Out:    r.number(),
		Said:   r.number(),
		Shield: r.flag(),
	}
}

func (r *reader) score() api.Score {
	return api.Score{Points: r.number(), Hits: r.number(), Outs: r.number(), Streak: r.number()}
}

func (r *reader) shot() api.Shot {
	return api.Shot{
		No:    r.number(),
		Owner: r.number(),
		Power: r.number(),
		At:    r.point(),
		Speed: r.point(),
		Left:  r.number(),
	}
}

func (r *reader) pickup() api.Pickup {
	return api.Pickup{No: r.number(), Spot: r.number(), Kind: r.number()}
}

func (r *reader) point() api.Point { return api.Point{X: r.number(), Y: r.number()} }

// number takes a number with a sign up.
func (r *reader) number() int { return int(r.Int()) }

func (r *reader) flag() bool {
	b := r.Byte()
	if b != yes && b != no {
		r.spoilt = true
	}
	return b == yes
}
