package mover

import (
	"echelon/api"
	"echelon/geom"
	"echelon/verb"
)

// What the verbs give and cost.
const (
	pushPart = 32 // a Steer's operand of 1
	fireCost = 10 // energy, a power of 1
	fireCool = 4  // frames, a power of 1
	dashCost = 20 // energy
)

// Act is what an order makes of a mover, and whether it was done (P8.2).
func Act(m api.Mover, o api.Order) (api.Mover, bool, api.Errno) {
	if errno := Check(m); errno != api.OK {
		return api.Mover{}, false, errno
	}
	if errno := verb.Check(o); errno != api.OK {
		return api.Mover{}, false, errno
	}
	w := worked{Mover: m}
	done := w.inPlay() && deeds()[o.Verb](&w, o)
	return w.Mover, done, api.OK
}

// deeds has for each verb's number the method that does it, and tells whether it was done. A method that does
// not do it changes nothing.
func deeds() map[int]func(*worked, api.Order) bool {
	return map[int]func(*worked, api.Order) bool{
		api.Steer:  (*worked).steer,
		api.Halt:   (*worked).halt,
		api.Aim:    (*worked).aim,
		api.Fire:   (*worked).fire,
		api.Shield: (*worked).shield,
		api.Dash:   (*worked).dash,
		api.Say:    (*worked).say,
	}
}

func (w *worked) steer(o api.Order) bool {
	w.Push = api.Point{X: pushPart * o.A, Y: pushPart * o.B}
	return true
}

func (w *worked) halt(api.Order) bool {
	w.Push = api.Point{}
	return true
}

func (w *worked) aim(o api.Order) bool {
	w.Facing = o.A
	return true
}

func (w *worked) fire(o api.Order) bool {
	if w.Cool > 0 || !w.spend(fireCost*o.A) {
		return false
	}
	w.Cool = fireCool * o.A
	return true
}

func (w *worked) shield(o api.Order) bool {
	if o.A == 0 {
		w.Shield = false
		return true
	}
	if w.Energy == 0 {
		return false
	}
	w.Shield = true
	return true
}

func (w *worked) dash(o api.Order) bool {
	if !w.spend(dashCost) {
		return false
	}
	w.Speed = geom.Scale(geom.Unit(o.A), api.MaxSpeed)
	return true
}

func (w *worked) say(o api.Order) bool {
	w.Said = o.A
	return true
}

// spend takes energy away, if there is so much.
func (w *worked) spend(energy int) bool {
	if w.Energy < energy {
		return false
	}
	w.Energy -= energy
	return true
}
