package clone

import (
	"math"

	"echelon/api"
	"echelon/code"
	"echelon/digest"
	"echelon/world"
)

// How a world's bytes begin, how yes and no stand in them, how many bytes its sum has.
const (
	head    = 'W'
	no      = 0
	yes     = 1
	sumSize = 8
)

// Encode is a world as bytes (P14.2).
func Encode(c api.Config, w api.World) ([]byte, api.Errno) {
	if errno := world.Check(c, w); errno != api.OK {
		return nil, errno
	}
	b := worldBytes(w)
	return append(b, sumBytes(b)...), api.OK
}

// sumBytes are the bytes of the sum of others, the lowest first.
func sumBytes(b []byte) []byte {
	var l []byte
	for sum := digest.Of(b); len(l) < sumSize; sum >>= 8 {
		l = append(l, byte(sum))
	}
	return l
}

// writer lays the parts of worlds and sessions down.
type writer struct{ *code.Writer }

// written are the bytes that a function lays down. The room is without a bound, for what may be has few bytes: no error comes of it.
func written(lay func(writer)) []byte {
	w := writer{code.NewWriter(math.MaxInt)}
	lay(w)
	b, _ := w.Done()
	return b
}

// worldBytes are a world's, without the sum.
func worldBytes(w api.World) []byte {
	return written(func(to writer) { to.world(w) })
}

func sessionBytes(c api.Config) []byte {
	return written(func(to writer) { to.session(c) })
}

func (w writer) world(x api.World) {
	w.Byte(head)
	w.Int(x.Frame)
	each(x.Movers, w.mover)
	each(x.Scores, w.score)
	w.count(len(x.Shots))
	each(x.Shots, w.shot)
	w.count(len(x.Pickups))
	each(x.Pickups, w.pickup)
	w.numbers(x.NextNo)
}

func (w writer) session(c api.Config) {
	w.numbers(c.Peers)
	w.Uint(c.Seed)
	w.numbers(c.Arena.Cols, c.Arena.Rows)
	w.Bytes([]byte(c.Arena.Signs))
	w.count(len(c.Lags))
	w.numbers(c.Lags...)
}

// each lays all of a list down, one behind the other.
func each[T any](l []T, lay func(T)) {
	for _, x := range l {
		lay(x)
	}
}

func (w writer) mover(m api.Mover) {
	w.point(m.At)
	w.point(m.Speed)
	w.point(m.Push)
	w.numbers(m.Facing, m.Health, m.Energy, m.Cool, m.Out, m.Said)
	w.flag(m.Shield)
}

func (w writer) score(s api.Score) { w.numbers(s.Points, s.Hits, s.Outs, s.Streak) }

func (w writer) shot(s api.Shot) {
	w.numbers(s.No, s.Owner, s.Power)
	w.point(s.At)
	w.point(s.Speed)
	w.numbers(s.Left)
}

func (w writer) pickup(p api.Pickup) { w.numbers(p.No, p.Spot, p.Kind) }

func (w writer) point(p api.Point) { w.numbers(p.X, p.Y) }

// numbers lays numbers with a sign down.
func (w writer) numbers(l ...int) {
	for _, n := range l {
		w.Int(int64(n))
	}
}

func (w writer) count(n int) { w.Uint(uint64(n)) }

func (w writer) flag(is bool) {
	if is {
		w.Byte(yes)
	} else {
		w.Byte(no)
	}
}
