package world

import (
	"slices"

	"echelon/api"
	"echelon/hit"
	"echelon/mover"
	"echelon/pickup"
	"echelon/score"
	"echelon/shot"
)

// frame is one that runs: the world as far as it has come, and what has happened. What its phases ask of other layers is never refused, for it begins with a world that may be.
type frame struct {
	session
	api.World
	commands []api.Command
	notes    []api.Note
}

// Step is the world behind one frame more, and what happened in it (P13.3).
func Step(c api.Config, w api.World, commands []api.Command) (api.World, []api.Note, api.Errno) {
	s, errno := open(c)
	if errno == api.OK {
		errno = s.check(w)
	}
	if errno != api.OK {
		return api.World{}, nil, errno
	}
	if w.Frame == api.MaxFrame {
		return api.World{}, nil, api.ErrWorldEnd
	}
	if !s.mayRun(w.Frame+1, commands) {
		return api.World{}, nil, api.ErrWorldCommand
	}
	next, notes := s.step(w, commands)
	return next, notes, api.OK
}

// step runs a frame whose world and commands may be.
func (s session) step(w api.World, commands []api.Command) (api.World, []api.Note) {
	f := frame{session: s, World: apart(w), commands: commands}
	for _, phase := range phases() {
		phase(&f)
	}
	f.Frame++
	return f.World, f.notes
}

// phases are those of a frame, in their order.
func phases() []func(*frame) {
	return []func(*frame){
		(*frame).obey,
		(*frame).glide,
		(*frame).bounce,
		(*frame).fly,
		(*frame).harm,
		(*frame).take,
		(*frame).spawn,
		(*frame).rest,
	}
}

// apart is a world that shares nothing with the one that it is like.
func apart(w api.World) api.World {
	w.Movers = slices.Clone(w.Movers)
	w.Scores = slices.Clone(w.Scores)
	w.Shots = slices.Clone(w.Shots)
	w.Pickups = slices.Clone(w.Pickups)
	return w
}

func (f *frame) obey() {
	for _, c := range f.commands {
		m, done, _ := mover.Act(f.Movers[c.Peer], c.Order)
		f.Movers[c.Peer] = m
		switch {
		case done && c.Order.Verb == api.Fire:
			f.fire(c.Peer, c.Order.A)
		case done && c.Order.Verb == api.Say:
			f.note(api.NoteSaid, c.Peer, c.Order.A)
		}
	}
}

// fire lets a shot come, if there is room and a number for one more.
func (f *frame) fire(seat, power int) {
	if len(f.Shots) >= api.MaxShots || f.NextNo > api.MaxNo {
		return
	}
	s, _ := shot.Fire(f.Movers[seat], seat, power, f.NextNo)
	f.Shots = append(f.Shots, s)
	f.NextNo++
	f.note(api.NoteFired, seat, s.No)
}

func (f *frame) glide() {
	for seat, m := range f.Movers {
		f.Movers[seat], _ = mover.Glide(m, f.Arena)
	}
}

func (f *frame) bounce() {
	meets, _ := hit.Bodies(f.Movers)
	for _, m := range meets {
		f.Movers[m.A], f.Movers[m.B], _ = hit.Apart(f.Movers[m.A], f.Movers[m.B])
		f.note(api.NoteBounce, m.A, m.B)
	}
}

func (f *frame) fly() {
	var flying []api.Shot
	for _, s := range f.Shots {
		if s, on, _ := shot.Fly(s, f.Arena); on {
			flying = append(flying, s)
		}
	}
	f.Shots = flying
}

func (f *frame) harm() {
	meets, _ := hit.Shots(f.Movers, f.Shots)
	for _, m := range meets {
		f.hurt(m.B, f.Shots[m.A])
	}
	f.Shots = unmet(f.Shots, meets)
}

// hurt is what a shot does to the mover of a seat, if that has not gone out by one ahead of it.
func (f *frame) hurt(seat int, s api.Shot) {
	if f.Movers[seat].Out > 0 {
		return
	}
	m, out, _ := mover.Hurt(f.Movers[seat], shot.Damage(s.Power))
	f.Movers[seat] = m
	f.Scores[s.Owner], f.Scores[seat], _ = score.Hit(f.Scores[s.Owner], f.Scores[seat], s.Power, out)
	f.note(api.NoteHit, seat, s.Owner)
	if out {
		f.note(api.NoteOut, seat, s.Owner)
	}
}

func (f *frame) take() {
	meets, _ := hit.Pickups(f.Movers, f.Pickups, f.spots)
	for _, m := range meets {
		kind := f.Pickups[m.A].Kind
		taker, points, _ := pickup.Take(f.Movers[m.B], kind)
		f.Movers[m.B] = taker
		f.Scores[m.B], _ = score.Gain(f.Scores[m.B], points)
		f.note(api.NoteTook, m.B, kind)
	}
	f.Pickups = unmet(f.Pickups, meets)
}

// unmet is what is left of a list: what has no meeting as its A.
func unmet[T any](l []T, meets []api.Meet) []T {
	var left []T
	for place, x := range l {
		if !slices.ContainsFunc(meets, func(m api.Meet) bool { return m.A == place }) {
			left = append(left, x)
		}
	}
	return left
}

func (f *frame) spawn() {
	if f.NextNo > api.MaxNo {
		return
	}
	p, is, _ := pickup.Spawn(f.Seed, f.Frame+1, f.Pickups, len(f.spots), f.NextNo)
	if !is {
		return
	}
	f.Pickups = append(f.Pickups, p)
	f.NextNo++
	f.note(api.NoteSpawn, p.Spot, p.Kind)
}

func (f *frame) rest() {
	for seat, m := range f.Movers {
		rested, back, _ := mover.Rest(m, f.starts[seat])
		f.Movers[seat] = rested
		if back {
			f.note(api.NoteBack, seat, 0)
		}
	}
}

func (f *frame) note(kind, a, b int) {
	f.notes = append(f.notes, api.Note{Kind: kind, A: a, B: b})
}
