package shot

import (
	"echelon/api"
	"echelon/arena"
	"echelon/geom"
)

// plain is a shot by itself, wherever it is.
type plain struct {
	api.Shot
}

func (p plain) mayBe() bool {
	return isNo(p.No) && isOwner(p.Owner) && isPower(p.Power) &&
		geom.Bound(p.At) == p.At &&
		within(p.Speed.X, -api.ShotSpeed, api.ShotSpeed) && within(p.Speed.Y, -api.ShotSpeed, api.ShotSpeed) &&
		within(p.Left, 1, api.ShotLife)
}

// ends tells whether this frame is its last one, whatever is in its way.
func (p plain) ends() bool { return p.Left == 1 }

// cameTo is the shot a frame later.
func (p plain) cameTo(at api.Point) api.Shot {
	p.At = at
	p.Left--
	return p.Shot
}

// walls is what stops shots.
type walls struct {
	api.Arena
}

// ray is where a point comes that goes a way between the walls, and whether one stopped it.
func (w walls) ray(at, by api.Point) (api.Point, bool) { return arena.Ray(w.Arena, at, by) }

// flying is a shot on its way between the walls of a map.
type flying struct {
	plain
	walls
}

// Fly is a shot that has flown for a frame, and whether it goes on (P9.3).
func Fly(s api.Shot, a api.Arena) (api.Shot, bool, api.Errno) {
	f := flying{plain{s}, walls{a}}
	if !f.mayBe() {
		return api.Shot{}, false, api.ErrShotState
	}
	at, stopped := f.ray(f.At, f.Speed)
	if stopped || f.ends() {
		return api.Shot{}, false, api.OK
	}
	return f.cameTo(at), true, api.OK
}
