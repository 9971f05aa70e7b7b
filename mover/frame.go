package mover

import (
	"echelon/api"
	"echelon/arena"
)

// What arena.Slide tells of the axes on which a body was stopped.
const (
	stoppedX = 1
	stoppedY = 2
)

// shieldCost is the energy that a shield takes in a frame.
const shieldCost = 2

// Glide is a mover that has moved for a frame (P8.3).
func Glide(m api.Mover, a api.Arena) (api.Mover, api.Errno) {
	if errno := Check(m); errno != api.OK {
		return api.Mover{}, errno
	}
	w := worked{Mover: m}
	if w.inPlay() {
		w.glide(a)
	}
	return w.Mover, api.OK
}

func (w *worked) glide(a api.Arena) {
	w.Speed = api.Point{X: driven(w.Speed.X, w.Push.X), Y: driven(w.Speed.Y, w.Push.Y)}
	at, stopped := arena.Slide(a, w.At, w.Speed, api.MoverRadius)
	w.At = at
	if stopped&stoppedX != 0 {
		w.Speed.X = bounced(w.Speed.X)
	}
	if stopped&stoppedY != 0 {
		w.Speed.Y = bounced(w.Speed.Y)
	}
}

// driven is a speed on one axis behind a frame's drag and push.
func driven(speed, push int) int {
	return min(max(speed*7/8+push, -api.MaxSpeed), api.MaxSpeed)
}

// bounced is a speed on one axis behind a wall.
func bounced(speed int) int { return -(speed / 2) }

// Hurt is a mover that was hit, and whether it went out (P8.4).
func Hurt(m api.Mover, harm int) (api.Mover, bool, api.Errno) {
	if errno := Check(m); errno != api.OK {
		return api.Mover{}, false, errno
	}
	if !within(harm, 1, api.MaxHealth) {
		return api.Mover{}, false, api.ErrArg
	}
	w := worked{Mover: m}
	out := w.inPlay() && w.hurt(harm)
	return w.Mover, out, api.OK
}

// hurt tells whether the mover went out.
func (w *worked) hurt(harm int) bool {
	if w.Shield {
		harm -= w.drain(harm)
	}
	w.Health -= harm
	if w.Health > 0 {
		return false
	}
	w.Mover = gone(w.Mover, api.OutFrames)
	return true
}

// drain takes energy from the shield, at most what there is, and tells how much: without energy there is none.
func (w *worked) drain(most int) int {
	taken := min(most, w.Energy)
	w.Energy -= taken
	w.Shield = w.Energy > 0
	return taken
}

// Rest is a mover at a frame's end, and whether it is back; if so it begins there (P8.5).
func Rest(m api.Mover, at api.Point) (api.Mover, bool, api.Errno) {
	if errno := Check(m); errno != api.OK {
		return api.Mover{}, false, errno
	}
	w := worked{Mover: m}
	if w.inPlay() {
		w.restInPlay()
		return w.Mover, false, api.OK
	}
	back := w.restOut(at)
	return w.Mover, back, api.OK
}

func (w *worked) restInPlay() {
	w.Cool = max(w.Cool-1, 0)
	if w.Shield {
		w.drain(shieldCost)
		return
	}
	w.Energy = min(w.Energy+1, api.MaxEnergy)
}

// restOut tells whether the mover is back.
func (w *worked) restOut(at api.Point) bool {
	w.Out--
	if w.Out > 0 {
		return false
	}
	said := w.Said
	w.Mover = Start(at, w.Facing)
	w.Said = said
	return true
}
