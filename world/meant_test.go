package world_test

import (
	"math/rand"
	"slices"
	"testing"

	"echelon/api"
	"echelon/arena"
	"echelon/hit"
	"echelon/mover"
	"echelon/pickup"
	"echelon/score"
	"echelon/shot"
	"echelon/world"
)

// meantStep is what P13.3 says of a frame, word by word, phase by phase.
func meantStep(c api.Config, w api.World, commands []api.Command) (api.World, []api.Note) {
	w = own(w)
	f := w.Frame + 1
	starts, spots := arena.Starts(c.Arena), arena.Spots(c.Arena)
	var notes []api.Note
	tell := func(kind, a, b int) { notes = append(notes, api.Note{Kind: kind, A: a, B: b}) }

	for _, x := range commands {
		m, done, _ := mover.Act(w.Movers[x.Peer], x.Order)
		w.Movers[x.Peer] = m
		if done && x.Order.Verb == api.Fire && len(w.Shots) < 48 && w.NextNo <= mostNo {
			s, _ := shot.Fire(m, x.Peer, x.Order.A, w.NextNo)
			w.Shots = append(w.Shots, s)
			w.NextNo++
			tell(api.NoteFired, x.Peer, s.No)
		}
		if done && x.Order.Verb == api.Say {
			tell(api.NoteSaid, x.Peer, x.Order.A)
		}
	}
	for seat := range c.Peers {
		w.Movers[seat], _ = mover.Glide(w.Movers[seat], c.Arena)
	}
	bodies, _ := hit.Bodies(slices.Clone(w.Movers))
	for _, x := range bodies {
		a, b, _ := hit.Apart(w.Movers[x.A], w.Movers[x.B])
		w.Movers[x.A], w.Movers[x.B] = a, b
		tell(api.NoteBounce, x.A, x.B)
	}
	for i := 0; i < len(w.Shots); {
		s, on, _ := shot.Fly(w.Shots[i], c.Arena)
		if on {
			w.Shots[i] = s
			i++
		} else {
			w.Shots = slices.Delete(w.Shots, i, i+1)
		}
	}
	hits, _ := hit.Shots(slices.Clone(w.Movers), slices.Clone(w.Shots))
	for gone, x := range hits {
		s := w.Shots[x.A-gone]
		w.Shots = slices.Delete(w.Shots, x.A-gone, x.A-gone+1)
		if w.Movers[x.B].Out > 0 {
			continue
		}
		m, out, _ := mover.Hurt(w.Movers[x.B], shot.Damage(s.Power))
		w.Movers[x.B] = m
		tell(api.NoteHit, x.B, s.Owner)
		by, who, _ := score.Hit(w.Scores[s.Owner], w.Scores[x.B], s.Power, out)
		w.Scores[s.Owner], w.Scores[x.B] = by, who
		if out {
			tell(api.NoteOut, x.B, s.Owner)
		}
	}
	taken, _ := hit.Pickups(slices.Clone(w.Movers), slices.Clone(w.Pickups), spots)
	for gone, x := range taken {
		p := w.Pickups[x.A-gone]
		w.Pickups = slices.Delete(w.Pickups, x.A-gone, x.A-gone+1)
		m, points, _ := pickup.Take(w.Movers[x.B], p.Kind)
		w.Movers[x.B] = m
		w.Scores[x.B], _ = score.Gain(w.Scores[x.B], points)
		tell(api.NoteTook, x.B, p.Kind)
	}
	if w.NextNo <= mostNo {
		if p, is, _ := pickup.Spawn(c.Seed, f, w.Pickups, len(spots), w.NextNo); is {
			w.Pickups = append(w.Pickups, p)
			w.NextNo++
			tell(api.NoteSpawn, p.Spot, p.Kind)
		}
	}
	for seat := range c.Peers {
		m, back, _ := mover.Rest(w.Movers[seat], starts[seat])
		w.Movers[seat] = m
		if back {
			tell(api.NoteBack, seat, 0)
		}
	}
	w.Frame = f
	return w, notes
}

// someIn is a number of a range, often at its ends.
func someIn(r *rand.Rand, least, most int) int {
	switch r.Intn(6) {
	case 0:
		return least
	case 1:
		return most
	case 2:
		return min(least+1, most)
	}
	return least + r.Intn(most-least+1)
}

// somePlaces are a few points of a map at which much may happen, spots among them.
func somePlaces(r *rand.Rand, c api.Config) []api.Point {
	l := append(arena.Spots(c.Arena), arena.Starts(c.Arena)...)
	for range 3 {
		l = append(l, at(r.Intn(c.Arena.Cols*4096), r.Intn(c.Arena.Rows*4096)))
	}
	r.Shuffle(len(l), func(i, j int) { l[i], l[j] = l[j], l[i] })
	return l[:1+r.Intn(4)]
}

func beside(r *rand.Rand, p api.Point, most int) api.Point {
	return at(p.X+r.Intn(2*most+1)-most, p.Y+r.Intn(2*most+1)-most)
}

func someWay(r *rand.Rand, most int) api.Point {
	return at(someIn(r, -most, most), someIn(r, -most, most))
}

func someMover(r *rand.Rand, places []api.Point) api.Mover {
	p := beside(r, places[r.Intn(len(places))], 3000)
	if r.Intn(5) == 0 {
		return api.Mover{At: p, Facing: r.Intn(16), Said: r.Intn(256), Out: someIn(r, 1, 30)}
	}
	m := api.Mover{At: p, Facing: r.Intn(16), Said: r.Intn(256), Health: someIn(r, 1, 100), Energy: someIn(r, 0, 100), Shield: r.Intn(3) == 0}
	if r.Intn(2) == 0 {
		m.Health = someIn(r, 1, 45)
	}
	if r.Intn(2) == 0 {
		m.Cool = someIn(r, 0, 12)
	}
	if r.Intn(3) > 0 {
		m.Speed, m.Push = someWay(r, 1024), someWay(r, 256)
	}
	return m
}

// someShots are so many, whose numbers rise.
func someShots(r *rand.Rand, c api.Config, places []api.Point, n int) []api.Shot {
	var l []api.Shot
	no := 0
	for range n {
		no += 1 + r.Intn(3)
		l = append(l, api.Shot{
			No: no, Owner: r.Intn(c.Peers), Power: 1 + r.Intn(3),
			At: beside(r, places[r.Intn(len(places))], 4000), Speed: someWay(r, 1536), Left: someIn(r, 1, 40),
		})
	}
	return l
}

func somePickups(r *rand.Rand, spots int) []api.Pickup {
	var l []api.Pickup
	no := 0
	for _, spot := range r.Perm(spots)[:r.Intn(min(spots, 8)+1)] {
		no += 1 + r.Intn(20)
		l = append(l, api.Pickup{No: no, Spot: spot, Kind: 1 + r.Intn(3)})
	}
	return l
}

func someScore(r *rand.Rand) api.Score {
	if r.Intn(3) == 0 {
		return api.Score{}
	}
	return api.Score{Points: someIn(r, -bound, bound), Hits: someIn(r, 0, bound), Outs: someIn(r, 0, bound), Streak: someIn(r, 0, 9)}
}

// someWorld is one of a session, in which a frame brings much.
func someWorld(r *rand.Rand, c api.Config) api.World {
	places := somePlaces(r, c)
	w := api.World{Frame: int64(someIn(r, 0, mostFrame-1))}
	if r.Intn(2) == 0 {
		w.Frame = 16*int64(r.Intn(1000)) + 15
	}
	for range c.Peers {
		w.Movers = append(w.Movers, someMover(r, places))
		w.Scores = append(w.Scores, someScore(r))
	}
	w.Shots = someShots(r, c, places, []int{0, 1, 3, 8, 20, 47, 48}[r.Intn(7)])
	w.Pickups = somePickups(r, len(arena.Spots(c.Arena)))
	for _, s := range w.Shots {
		w.NextNo = max(w.NextNo, s.No)
	}
	for _, p := range w.Pickups {
		w.NextNo = max(w.NextNo, p.No)
	}
	w.NextNo = someIn(r, w.NextNo+1, w.NextNo+100)
	if r.Intn(10) == 0 {
		w.NextNo = mostNo - 2 + r.Intn(4)
	}
	return w
}

func someOrder(r *rand.Rand) api.Order {
	switch r.Intn(10) {
	case 0:
		return api.Order{Verb: api.Steer, A: someIn(r, -8, 8), B: someIn(r, -8, 8)}
	case 1:
		return api.Order{Verb: api.Halt}
	case 2:
		return api.Order{Verb: api.Aim, A: r.Intn(16)}
	case 3:
		return api.Order{Verb: api.Shield, A: r.Intn(2)}
	case 4:
		return api.Order{Verb: api.Dash, A: r.Intn(16)}
	case 5, 6:
		return api.Order{Verb: api.Say, A: r.Intn(256)}
	}
	return api.Order{Verb: api.Fire, A: 1 + r.Intn(3)}
}

// someCommands are those of a frame, in their order.
func someCommands(r *rand.Rand, c api.Config, frame int64) []api.Command {
	var l []api.Command
	for peer := range c.Peers {
		seq := 0
		for range r.Intn(4) {
			seq += 1 + r.Intn(5)
			l = append(l, api.Command{Frame: frame, Peer: peer, Seq: seq, Order: someOrder(r)})
		}
	}
	return l
}

func someSession(r *rand.Rand) api.Config {
	standard := r.Intn(4)
	c := session(2+r.Intn([]int{3, 5, 5, 3}[standard]), standard, 0, 1+r.Intn(47))
	c.Seed = r.Uint64()
	return c
}

// TestP13_3Some: frames of worlds in which much happens.
func TestP13_3Some(t *testing.T) {
	r := rand.New(rand.NewSource(133))
	var told [9]int
	for range 30000 {
		c := someSession(r)
		w := someWorld(r, c)
		commands := someCommands(r, c, w.Frame+1)
		want, wantNotes := meantStep(c, w, commands)
		got, notes, e := world.Step(c, w, commands)
		if !same(got, want) || !slices.Equal(notes, wantNotes) || e != 0 {
			t.Fatalf("Step(%+v, %+v, %v): %+v %v %d, not %+v %v", c, w, commands, got, notes, e, want, wantNotes)
		}
		for _, n := range notes {
			told[n.Kind]++
		}
	}
	for kind := 1; kind <= 8; kind++ {
		if told[kind] < 1000 {
			t.Errorf("only %d notes of kind %d", told[kind], kind)
		}
	}
}

// TestP13_3Play: games from their beginning on.
func TestP13_3Play(t *testing.T) {
	r := rand.New(rand.NewSource(134))
	for range 40 {
		c := someSession(r)
		w := begun(t, c)
		for f := int64(1); f <= 300; f++ {
			var commands []api.Command
			if r.Intn(2) == 0 {
				commands = someCommands(r, c, f)
			}
			want, wantNotes := meantStep(c, w, commands)
			got, notes, e := world.Step(c, w, commands)
			if !same(got, want) || !slices.Equal(notes, wantNotes) || e != 0 {
				t.Fatalf("Step(%+v, %+v, %v): %+v %v %d, not %+v %v", c, w, commands, got, notes, e, want, wantNotes)
			}
			w = got
		}
	}
}
