package world_test

import (
	"slices"
	"testing"

	"echelon/api"
	"echelon/arena"
	"echelon/pickup"
	"echelon/world"
)

// The points of the map 3 at which nobody stands at first: the room is from 4096 to 28671 and from 4096 to 20479.
var (
	middle = api.Point{X: 12000, Y: 15000}
	aside  = api.Point{X: 20000, Y: 15000}
)

// four is a session of four, at the corners of a small room.
func four() api.Config { return session(4, 3, 0, 2) }

// spawned is the pickup that comes in a frame.
func spawned(t *testing.T, c api.Config, frame int64, l []api.Pickup, no int) api.Pickup {
	t.Helper()
	p, is, e := pickup.Spawn(c.Seed, frame, l, len(arena.Spots(c.Arena)), no)
	if !is || e != 0 {
		t.Fatalf("no pickup comes in frame %d", frame)
	}
	return p
}

// Phase 1.

func TestP13_3Orders(t *testing.T) {
	c := two()
	for _, x := range []struct {
		name  string
		order api.Order
		do    func(m *api.Mover)
	}{
		{"steer", api.Order{Verb: api.Steer, A: 8, B: -4}, func(m *api.Mover) {
			m.Push, m.Speed, m.At = at(256, -128), at(256, -128), at(6400, 6016)
		}},
		{"halt", api.Order{Verb: api.Halt}, func(m *api.Mover) {}},
		{"aim", api.Order{Verb: api.Aim, A: 13}, func(m *api.Mover) { m.Facing = 13 }},
		{"shield", api.Order{Verb: api.Shield, A: 1}, func(m *api.Mover) { m.Shield, m.Energy = true, 48 }},
		{"no shield", api.Order{Verb: api.Shield}, func(m *api.Mover) {}},
		{"dash", api.Order{Verb: api.Dash, A: 0}, func(m *api.Mover) { m.Energy, m.Speed, m.At = 31, at(896, 0), at(7040, 6144) }},
	} {
		w := begun(t, c)
		want := rested(w)
		x.do(&want.Movers[0])
		wantStep(t, x.name, c, w, []api.Command{{Frame: 1, Seq: 1, Order: x.order}}, want)
	}
}

// TestP13_3OrdersInTurn: a later order of a frame finds what an earlier one has done.
func TestP13_3OrdersInTurn(t *testing.T) {
	c := two()
	w := begun(t, c)
	want := rested(w)
	want.Movers[0].Facing, want.Movers[0].Energy, want.Movers[0].Cool, want.NextNo = 4, 41, 3, 2
	want.Shots = []api.Shot{{No: 1, Power: 1, At: at(6144, 6144+1792+1536), Speed: at(0, 1536), Left: 39}}
	wantStep(t, "aim, fire", c, w, []api.Command{order(0, 1, api.Aim, 4, 0), order(0, 2, api.Fire, 1, 0)}, want, note(1, 0, 1))

	want.Shots[0].At, want.Shots[0].Speed = at(6144+1792+1536, 6144), at(1536, 0)
	wantStep(t, "fire, aim", c, w, []api.Command{order(0, 1, api.Fire, 1, 0), order(0, 2, api.Aim, 4, 0)}, want, note(1, 0, 1))

	want = rested(w)
	wantStep(t, "steer, halt", c, w, []api.Command{order(0, 1, api.Steer, 8, 8), order(0, 2, api.Halt, 0, 0)}, want)
	want.Movers[0].Said = 3
	wantStep(t, "say twice", c, w, []api.Command{order(0, 1, api.Say, 255, 0), order(0, 2, api.Say, 3, 0)}, want, note(8, 0, 255), note(8, 0, 3))
	want.Movers[0].Said = 0
	wantStep(t, "say nought", c, w, []api.Command{order(0, 1, api.Say, 0, 0)}, want, note(8, 0, 0))
}

// TestP13_3FireAhead: a shot begins where its mover is ahead of its move.
func TestP13_3FireAhead(t *testing.T) {
	c := two()
	w := begun(t, c)
	w.Movers[0].Speed = at(0, 800)
	want := rested(w)
	want.Movers[0].At, want.Movers[0].Speed = at(6144, 6844), at(0, 700)
	want.Movers[0].Energy, want.Movers[0].Cool, want.NextNo = 31, 7, 2
	want.Shots = []api.Shot{{No: 1, Power: 2, At: at(6144+1792+1280, 6144), Speed: at(1280, 0), Left: 39}}
	wantStep(t, "fire", c, w, []api.Command{order(0, 1, api.Fire, 2, 0)}, want, note(1, 0, 1))
}

func TestP13_3FireOfAll(t *testing.T) {
	c := four()
	w := begun(t, c)
	w.NextNo = 40
	want := rested(w)
	var commands []api.Command
	var notes []api.Note
	ways := []api.Point{at(1, 0), at(0, 1), at(-1, 0), at(0, -1)}
	for seat := range 4 {
		w.Movers[seat].At = []api.Point{at(8000, 6144), at(24000, 6144), at(12000, 16000), at(24000, 18432)}[seat]
		power := []int{1, 2, 3, 1}[seat]
		speed := (7 - power) * 256
		commands = append(commands, order(seat, 1, api.Fire, power, 0))
		notes = append(notes, note(1, seat, 40+seat))
		want.Movers[seat].At, want.Movers[seat].Energy, want.Movers[seat].Cool = w.Movers[seat].At, 51-10*power, 4*power-1
		far := 1792 + speed
		want.Shots = append(want.Shots, api.Shot{
			No: 40 + seat, Owner: seat, Power: power, Left: 39,
			At:    at(w.Movers[seat].At.X+ways[seat].X*far, w.Movers[seat].At.Y+ways[seat].Y*far),
			Speed: at(ways[seat].X*speed, ways[seat].Y*speed),
		})
	}
	want.NextNo = 44
	wantStep(t, "all fire", c, w, commands, want, notes...)
}

// TestP13_3FireRefused: what is not done makes no shot, and is told by no note.
func TestP13_3FireRefused(t *testing.T) {
	c := two()
	fire := []api.Command{order(0, 1, api.Fire, 2, 0), order(0, 2, api.Dash, 3, 0)}
	w := begun(t, c)
	w.Movers[0].Energy = 19
	wantStep(t, "too little energy", c, w, fire, rested(w))

	w = begun(t, c)
	w.Movers[0].Cool = 12
	want := rested(w)
	want.Movers[0].Cool = 11
	wantStep(t, "it cools", c, w, fire[:1], want)

	w = begun(t, c)
	w.Movers[0] = api.Mover{At: at(9000, 9000), Facing: 7, Out: 9, Said: 4}
	want = rested(w)
	want.Movers[0].Out = 8
	wantStep(t, "it is out", c, w, append(fire, order(0, 3, api.Say, 9, 0)), want)

	w = begun(t, c)
	want = rested(w)
	want.Movers[0].Energy, want.Movers[0].Cool, want.NextNo = 41, 3, 2
	want.Shots = []api.Shot{{No: 1, Power: 1, At: at(9472, 6144), Speed: at(1536, 0), Left: 39}}
	wantStep(t, "twice", c, w, []api.Command{order(0, 1, api.Fire, 1, 0), order(0, 2, api.Fire, 1, 0)}, want, note(1, 0, 1))
}

// TestP13_3ManyShots: where there are 48 shots no other one comes, though the order is done.
func TestP13_3ManyShots(t *testing.T) {
	c := two()
	for n := 46; n <= 48; n++ {
		w := begun(t, c)
		w.Shots, w.NextNo = fliers(n, 3, middle.X, middle.Y), 60
		want := rested(w)
		for i := range want.Shots {
			want.Shots[i].Left--
		}
		var notes []api.Note
		for seat, s := range []api.Shot{
			{No: 60, Owner: 0, Power: 1, At: at(9472, 6144), Speed: at(1536, 0), Left: 39},
			{No: 61, Owner: 1, Power: 1, At: at(26624, 9472), Speed: at(0, 1536), Left: 39},
		} {
			want.Movers[seat].Energy, want.Movers[seat].Cool = 41, 3
			if n+seat < 48 {
				want.Shots = append(want.Shots, s)
				want.NextNo++
				notes = append(notes, note(1, seat, s.No))
			}
		}
		wantStep(t, "many shots", c, w, []api.Command{order(0, 1, api.Fire, 1, 0), order(1, 1, api.Fire, 1, 0)}, want, notes...)
	}
}

// TestP13_3ShotsThatEnd: room that comes in a frame, as shots end, is none for that frame's commands.
func TestP13_3ShotsThatEnd(t *testing.T) {
	c := two()
	w := begun(t, c)
	w.Shots, w.NextNo = fliers(48, 1, middle.X, middle.Y), 49
	for i := range w.Shots {
		w.Shots[i].Left = 1
	}
	want := rested(w)
	want.Shots = nil
	want.Movers[0].Energy, want.Movers[0].Cool = 41, 3
	wantStep(t, "all end", c, w, []api.Command{order(0, 1, api.Fire, 1, 0)}, want)
}

func TestP13_3LastNumbers(t *testing.T) {
	c := two()
	fire := []api.Command{order(0, 1, api.Fire, 1, 0), order(1, 1, api.Fire, 1, 0)}
	for next := mostNo - 1; next <= mostNo+1; next++ {
		w := begun(t, c)
		w.NextNo = next
		want := rested(w)
		var notes []api.Note
		for seat, s := range []api.Shot{
			{Owner: 0, Power: 1, At: at(9472, 6144), Speed: at(1536, 0), Left: 39},
			{Owner: 1, Power: 1, At: at(26624, 9472), Speed: at(0, 1536), Left: 39},
		} {
			want.Movers[seat].Energy, want.Movers[seat].Cool = 41, 3
			if s.No = next + seat; s.No <= mostNo {
				want.Shots = append(want.Shots, s)
				want.NextNo = s.No + 1
				notes = append(notes, note(1, seat, s.No))
			}
		}
		wantStep(t, "the last numbers", c, w, fire, want, notes...)
	}
}

// Phase 2.

func TestP13_3Glide(t *testing.T) {
	c := four()
	w := begun(t, c)
	w.Movers[0].Speed, w.Movers[0].Push = at(-1024, 80), at(0, 32)
	w.Movers[1].Speed = at(800, -800)
	w.Movers[2] = api.Mover{At: at(9000, 9000), Out: 12}
	want := rested(w)
	want.Movers[0].At, want.Movers[0].Speed = at(5376, 6246), at(448, 102)
	want.Movers[1].At, want.Movers[1].Speed = at(27324, 5444), at(700, -700)
	want.Movers[2].Out = 11
	wantStep(t, "they move", c, w, nil, want)
}

// Phase 3.

func TestP13_3Bounce(t *testing.T) {
	c := four()
	for _, x := range []struct {
		far  int // behind the move
		meet bool
	}{{0, true}, {1, true}, {2559, true}, {2560, true}, {2561, false}, {3000, false}} {
		w := begun(t, c)
		w.Movers[1].At, w.Movers[1].Speed = at(middle.X-700, middle.Y), at(800, 0)
		w.Movers[3].At, w.Movers[3].Speed = at(middle.X, middle.Y+x.far-70), at(0, 80)
		want := rested(w)
		want.Movers[1].At, want.Movers[1].Speed = middle, at(700, 0)
		want.Movers[3].At, want.Movers[3].Speed = at(middle.X, middle.Y+x.far), at(0, 70)
		if x.meet {
			want.Movers[1].Speed, want.Movers[3].Speed = at(0, 70), at(700, 0)
			wantStep(t, "they meet", c, w, nil, want, note(7, 1, 3))
		} else {
			wantStep(t, "they don't meet", c, w, nil, want)
		}
	}
}

// TestP13_3BounceSeveral: each pair finds the speeds as they are then.
func TestP13_3BounceSeveral(t *testing.T) {
	c := four()
	w := begun(t, c)
	for seat := range 4 {
		w.Movers[seat].At, w.Movers[seat].Speed = at(middle.X, middle.Y+seat), at(80*(seat+1), 0)
	}
	want := rested(w)
	for seat := range 4 {
		want.Movers[seat].At = at(middle.X+70*(seat+1), middle.Y+seat)
	}
	for seat, speed := range []int{280, 210, 140, 70} {
		want.Movers[seat].Speed = at(speed, 0)
	}
	wantStep(t, "all four", c, w, nil, want, note(7, 0, 1), note(7, 0, 2), note(7, 0, 3), note(7, 1, 2), note(7, 1, 3), note(7, 2, 3))

	w.Movers[1] = api.Mover{At: middle, Out: 4}
	want = rested(w)
	want.Movers[1].Out = 3
	want.Movers[0].At, want.Movers[2].At, want.Movers[3].At = at(middle.X+70, middle.Y), at(middle.X+210, middle.Y+2), at(middle.X+280, middle.Y+3)
	want.Movers[0].Speed, want.Movers[2].Speed, want.Movers[3].Speed = at(280, 0), at(210, 0), at(70, 0)
	wantStep(t, "one is out", c, w, nil, want, note(7, 0, 2), note(7, 0, 3), note(7, 2, 3))

	w.Movers[3].At = at(middle.X+2700+140, middle.Y+2) // it touches the third one alone
	w.Movers[3].Speed = at(-160, 0)
	want.Movers[3].At = at(middle.X+2700, middle.Y+2)
	want.Movers[0].Speed, want.Movers[2].Speed, want.Movers[3].Speed = at(210, 0), at(-140, 0), at(70, 0)
	wantStep(t, "a chain", c, w, nil, want, note(7, 0, 2), note(7, 2, 3))
}

// TestP13_3BounceLater: who is touched moves on by its new speed in the next frame alone.
func TestP13_3BounceLater(t *testing.T) {
	c := two()
	w := begun(t, c)
	w.Movers[0].At, w.Movers[0].Speed = middle, at(0, -800)
	w.Movers[1].At = at(middle.X+2000, middle.Y)
	w, notes, _ := world.Step(c, w, nil)
	if w.Movers[0].At != at(middle.X, middle.Y-700) || w.Movers[1].At != at(middle.X+2000, middle.Y) || len(notes) != 1 {
		t.Errorf("%+v %v", w.Movers, notes)
	}
	w, notes, _ = world.Step(c, w, nil)
	if w.Movers[0].At != at(middle.X, middle.Y-700) || w.Movers[1].At != at(middle.X+2000, middle.Y-612) || len(notes) != 1 {
		t.Errorf("%+v %v", w.Movers, notes)
	}
}

// Phase 4.

func TestP13_3Fly(t *testing.T) {
	c := four()
	w := begun(t, c)
	w.Shots = []api.Shot{
		{No: 1, Owner: 0, Power: 1, At: middle, Speed: at(700, -900), Left: 2},
		{No: 2, Owner: 1, Power: 1, At: middle, Speed: at(700, -900), Left: 1},
		{No: 5, Owner: 1, Power: 3, At: at(middle.X, 20000), Speed: at(0, 1536), Left: 30},
		{No: 6, Owner: 3, Power: 2, At: at(middle.X, 18943), Speed: at(0, 1536), Left: 30},
		{No: 9, Owner: 2, Power: 2, At: aside, Left: 40},
		{No: 10, Owner: 2, Power: 2, At: at(100, 100), Speed: at(1, 1), Left: 40},
	}
	w.NextNo = 11
	want := rested(w)
	want.Shots = []api.Shot{
		{No: 1, Owner: 0, Power: 1, At: at(middle.X+700, middle.Y-900), Speed: at(700, -900), Left: 1},
		{No: 6, Owner: 3, Power: 2, At: at(middle.X, 20479), Speed: at(0, 1536), Left: 29},
		{No: 9, Owner: 2, Power: 2, At: aside, Left: 39},
	}
	wantStep(t, "they fly", c, w, nil, want)
	w = want
	want = rested(w)
	want.Shots = []api.Shot{{No: 9, Owner: 2, Power: 2, At: aside, Left: 38}}
	wantStep(t, "they fly on", c, w, nil, want)
}

// TestP13_3FireAtWall: a shot that is fired at a wall is gone in its frame, its number with it.
func TestP13_3FireAtWall(t *testing.T) {
	c := two()
	w := begun(t, c)
	want := rested(w)
	want.Movers[0].Facing, want.Movers[0].Energy, want.Movers[0].Cool, want.NextNo = 8, 41, 3, 2
	wantStep(t, "at the wall", c, w, []api.Command{order(0, 1, api.Aim, 8, 0), order(0, 2, api.Fire, 1, 0)}, want, note(1, 0, 1))
}

// Phase 5.

// shotAt is a shot that is there behind its move.
func shotAt(no, owner, power int, p api.Point) api.Shot {
	return api.Shot{No: no, Owner: owner, Power: power, At: at(p.X-300, p.Y+200), Speed: at(300, -200), Left: 9}
}

func TestP13_3Hit(t *testing.T) {
	c := four()
	for power := 1; power <= 3; power++ {
		w := begun(t, c)
		w.Movers[2].At = middle
		w.Shots, w.NextNo = []api.Shot{shotAt(1, 3, power, middle), shotAt(4, 2, power, middle)}, 5
		want := rested(w)
		want.Movers[2].Health = 100 - 15*power
		want.Shots = []api.Shot{{No: 4, Owner: 2, Power: power, At: middle, Speed: at(300, -200), Left: 8}}
		want.Scores[3] = api.Score{Points: power, Hits: 1}
		wantStep(t, "a hit", c, w, nil, want, note(2, 2, 3))

		w.Movers[2].Shield, w.Movers[2].Energy = true, 40
		want.Movers[2].Health, want.Movers[2].Shield, want.Movers[2].Energy = 100, true, 40-15*power-2
		if power == 3 {
			want.Movers[2].Health, want.Movers[2].Shield, want.Movers[2].Energy = 95, false, 1
		}
		wantStep(t, "with a shield", c, w, nil, want, note(2, 2, 3))
	}
}

// TestP13_3HitWhere: a shot hits where it is behind its flight, and a mover where it is behind its move.
func TestP13_3HitWhere(t *testing.T) {
	c := two()
	for _, x := range []struct {
		off int
		hit bool
	}{{0, true}, {1280, true}, {-1280, true}, {1281, false}, {-1281, false}} {
		w := begun(t, c)
		w.Movers[1].At, w.Movers[1].Speed = at(middle.X-700, middle.Y), at(800, 0)
		w.Shots, w.NextNo = []api.Shot{shotAt(1, 0, 1, at(middle.X, middle.Y+x.off))}, 2
		want := rested(w)
		want.Movers[1].At, want.Movers[1].Speed = middle, at(700, 0)
		want.Shots = nil
		if x.hit {
			want.Movers[1].Health, want.Scores[0] = 85, api.Score{Points: 1, Hits: 1}
			wantStep(t, "a hit", c, w, nil, want, note(2, 1, 0))
		} else {
			want.Shots = []api.Shot{{No: 1, Power: 1, At: at(middle.X, middle.Y+x.off), Speed: at(300, -200), Left: 8}}
			wantStep(t, "no hit", c, w, nil, want)
		}
	}
}

func TestP13_3Out(t *testing.T) {
	c := four()
	for _, x := range []struct {
		health int
		out    bool
	}{{1, true}, {30, true}, {31, false}} {
		w := begun(t, c)
		w.Movers[0] = api.Mover{At: middle, Speed: at(0, 0), Facing: 11, Health: x.health, Energy: 70, Cool: 3, Said: 6}
		w.Scores[0], w.Scores[2] = api.Score{Points: 20, Hits: 3, Outs: 1, Streak: 2}, api.Score{Points: 5, Hits: 7, Outs: 4, Streak: 3}
		w.Shots, w.NextNo = []api.Shot{shotAt(8, 2, 2, middle)}, 9
		want := rested(w)
		want.Shots = nil
		if !x.out {
			want.Movers[0].Health, want.Movers[0].Cool = 1, 2
			want.Scores[2] = api.Score{Points: 7, Hits: 8, Outs: 4, Streak: 3}
			wantStep(t, "hardly in play", c, w, nil, want, note(2, 0, 2))
			continue
		}
		want.Movers[0] = api.Mover{At: middle, Facing: 11, Said: 6, Out: 29}
		want.Scores[0], want.Scores[2] = api.Score{Points: 18, Hits: 3, Outs: 2, Streak: 0}, api.Score{Points: 20, Hits: 8, Outs: 4, Streak: 4}
		wantStep(t, "out", c, w, nil, want, note(2, 0, 2), note(3, 0, 2))
	}
}

// TestP13_3OutByEarlier: a shot that meets one who went out by an earlier one of the frame is gone for nothing, also where another mover stands behind.
func TestP13_3OutByEarlier(t *testing.T) {
	c := four()
	w := begun(t, c)
	w.Movers[0].At, w.Movers[0].Health = middle, 16
	w.Movers[1].At = middle
	w.Shots = []api.Shot{shotAt(1, 2, 1, middle), shotAt(2, 3, 1, middle), shotAt(3, 3, 3, middle), shotAt(4, 2, 3, middle), shotAt(5, 0, 2, middle)}
	w.NextNo = 6
	want := rested(w)
	want.Movers[0] = api.Mover{At: middle, Facing: 0, Out: 29}
	want.Movers[1].Health = 70
	want.Shots = nil
	want.Scores[0] = api.Score{Points: 0, Hits: 1, Outs: 1}
	want.Scores[2] = api.Score{Points: 1, Hits: 1}
	want.Scores[3] = api.Score{Points: 11, Hits: 1, Streak: 1}
	wantStep(t, "out by an earlier one", c, w, nil, want, note(7, 0, 1), note(2, 0, 2), note(2, 0, 3), note(3, 0, 3), note(2, 1, 0))
}

// TestP13_3OutBoth: two that put each other out in one frame.
func TestP13_3OutBoth(t *testing.T) {
	c := two()
	w := begun(t, c)
	w.Movers[0].At, w.Movers[0].Health = middle, 10
	w.Movers[1].At, w.Movers[1].Health = aside, 10
	w.Scores[0].Streak, w.Scores[1].Streak = 1, 9
	w.Shots, w.NextNo = []api.Shot{shotAt(1, 0, 1, aside), shotAt(2, 1, 2, middle)}, 3
	want := rested(w)
	want.Movers[0] = api.Mover{At: middle, Facing: 0, Out: 29}
	want.Movers[1] = api.Mover{At: aside, Facing: 4, Out: 29}
	want.Shots = nil
	want.Scores[0] = api.Score{Points: 12 - 2, Hits: 1, Outs: 1, Streak: 0}
	want.Scores[1] = api.Score{Points: -2 + 12, Hits: 1, Outs: 1, Streak: 1}
	wantStep(t, "both", c, w, nil, want, note(2, 1, 0), note(3, 1, 0), note(2, 0, 1), note(3, 0, 1))
}

// TestP13_3OutMeetsNobody: shots fly through movers that are out.
func TestP13_3OutMeetsNobody(t *testing.T) {
	c := two()
	w := begun(t, c)
	w.Movers[1] = api.Mover{At: middle, Out: 20}
	w.Shots, w.NextNo = []api.Shot{shotAt(1, 0, 3, middle)}, 2
	want := rested(w)
	want.Movers[1].Out = 19
	want.Shots[0].At, want.Shots[0].Left = middle, 8
	wantStep(t, "out already", c, w, nil, want)
}

// TestP13_3ShotsThatStay: the shots that hit nobody stay, in their order, whichever ones are gone.
func TestP13_3ShotsThatStay(t *testing.T) {
	c := two()
	for mask := range 32 {
		w := begun(t, c)
		w.Movers[1].At = aside
		w.NextNo = 10
		want := rested(w)
		var notes []api.Note
		for i := range 5 {
			p := middle
			if mask>>i&1 == 1 {
				p = aside
				notes = append(notes, note(2, 1, 0))
				want.Movers[1].Health -= 15
				want.Scores[0].Points, want.Scores[0].Hits = want.Scores[0].Points+1, want.Scores[0].Hits+1
			} else {
				want.Shots = append(want.Shots, api.Shot{No: i + 1, Power: 1, At: p, Speed: at(300, -200), Left: 8})
			}
			w.Shots = append(w.Shots, shotAt(i+1, 0, 1, p))
		}
		wantStep(t, "some stay", c, w, nil, want, notes...)
	}
}

// TestP13_3FireAtOnce: a shot may hit in the frame in which it is fired.
func TestP13_3FireAtOnce(t *testing.T) {
	c := two()
	w := begun(t, c)
	w.Movers[1].At = at(6144+1792+1536+1280, 6144)
	want := rested(w)
	want.Movers[0].Energy, want.Movers[0].Cool, want.NextNo = 41, 3, 2
	want.Movers[1].Health = 85
	want.Scores[0] = api.Score{Points: 1, Hits: 1}
	wantStep(t, "at once", c, w, []api.Command{order(0, 1, api.Fire, 1, 0)}, want, note(1, 0, 1), note(2, 1, 0))
}

// Phase 6.

var (
	firstSpot  = api.Point{X: 14336, Y: 10240}
	secondSpot = api.Point{X: 18432, Y: 10240}
)

func TestP13_3Take(t *testing.T) {
	c := two()
	for kind := 1; kind <= 3; kind++ {
		w := begun(t, c)
		w.Movers[1].At, w.Movers[1].Health, w.Movers[1].Energy = secondSpot, 60, 20
		w.Scores[1].Points = 7
		w.Pickups, w.NextNo = []api.Pickup{{No: 2, Spot: 0, Kind: 1}, {No: 4, Spot: 1, Kind: kind}}, 5
		want := rested(w)
		want.Pickups = want.Pickups[:1]
		switch kind {
		case 1:
			want.Movers[1].Health = 90
		case 2:
			want.Movers[1].Energy = 61
		case 3:
			want.Scores[1].Points = 12
		}
		wantStep(t, "take", c, w, nil, want, note(5, 1, kind))
	}
}

func TestP13_3TakeSeveral(t *testing.T) {
	c := two()
	for seat := range 2 {
		w := begun(t, c)
		w.Movers[seat].At, w.Movers[seat].Health = at(16384, 10240), 20 // between both spots: it touches both
		w.Pickups, w.NextNo = []api.Pickup{{No: 2, Spot: 1, Kind: 3}, {No: 4, Spot: 0, Kind: 1}}, 5
		want := rested(w)
		want.Movers[seat].Health, want.Scores[seat].Points, want.Pickups = 50, 5, nil
		wantStep(t, "both", c, w, nil, want, note(5, seat, 3), note(5, seat, 1))
	}
	w := begun(t, c)
	w.Movers[0].At, w.Movers[1].At = secondSpot, firstSpot
	w.Pickups, w.NextNo = []api.Pickup{{No: 2, Spot: 0, Kind: 3}, {No: 4, Spot: 1, Kind: 2}}, 5
	want := rested(w)
	want.Movers[0].Energy, want.Scores[1].Points, want.Pickups = 91, 5, nil
	wantStep(t, "each one", c, w, nil, want, note(5, 1, 3), note(5, 0, 2))
}

// TestP13_3TakeBehindOut: who goes out in a frame takes nothing in it; another one there does.
func TestP13_3TakeBehindOut(t *testing.T) {
	c := four()
	w := begun(t, c)
	w.Movers[0].At, w.Movers[0].Health = firstSpot, 5
	w.Movers[2].At = at(firstSpot.X, firstSpot.Y+2000)
	w.Shots = []api.Shot{shotAt(3, 1, 1, firstSpot)}
	w.Pickups, w.NextNo = []api.Pickup{{No: 4, Spot: 0, Kind: 1}}, 5
	want := rested(w)
	want.Movers[0] = api.Mover{At: firstSpot, Facing: 0, Out: 29}
	want.Scores[0], want.Scores[1] = api.Score{Points: -2, Outs: 1}, api.Score{Points: 11, Hits: 1, Streak: 1}
	want.Shots, want.Pickups = nil, nil
	wantStep(t, "the other one", c, w, nil, want, note(7, 0, 2), note(2, 0, 1), note(3, 0, 1), note(5, 2, 1))

	w.Movers[2].At = middle
	want.Movers[2].At, want.Pickups = middle, w.Pickups
	wantStep(t, "nobody", c, w, nil, want, note(2, 0, 1), note(3, 0, 1))
}

// TestP13_3HealTooLate: health comes behind the harm of its frame.
func TestP13_3HealTooLate(t *testing.T) {
	c := two()
	w := begun(t, c)
	w.Movers[1].At, w.Movers[1].Health = firstSpot, 46
	w.Shots = []api.Shot{shotAt(3, 0, 3, firstSpot)}
	w.Pickups, w.NextNo = []api.Pickup{{No: 4, Spot: 0, Kind: 1}}, 5
	want := rested(w)
	want.Movers[1].Health, want.Scores[0], want.Shots, want.Pickups = 31, api.Score{Points: 3, Hits: 1}, nil, nil
	wantStep(t, "healed", c, w, nil, want, note(2, 1, 0), note(5, 1, 1))
}

// Phase 7.

func TestP13_3Spawn(t *testing.T) {
	c := session(2, 0, 0, 2)
	for frame := int64(0); frame < 70; frame++ {
		w := begun(t, c)
		w.Frame, w.NextNo = frame, 30
		want := rested(w)
		if (frame+1)%16 != 0 {
			wantStep(t, "nothing comes", c, w, nil, want)
			continue
		}
		p := spawned(t, c, frame+1, nil, 30)
		want.Pickups, want.NextNo = []api.Pickup{p}, 31
		wantStep(t, "one comes", c, w, nil, want, note(6, p.Spot, p.Kind))
	}
}

func TestP13_3SpawnNumbers(t *testing.T) {
	c := two()
	for next := mostNo - 1; next <= mostNo+1; next++ {
		w := begun(t, c)
		w.Frame, w.NextNo = 31, next
		want := rested(w)
		if next > mostNo {
			wantStep(t, "no number is left", c, w, nil, want)
			continue
		}
		p := spawned(t, c, 32, nil, next)
		want.Pickups, want.NextNo = []api.Pickup{p}, next+1
		wantStep(t, "a number is left", c, w, nil, want, note(6, p.Spot, p.Kind))

		want.Movers[0].Energy, want.Movers[0].Cool = 41, 3
		want.Shots = []api.Shot{{No: next, Power: 1, At: at(9472, 6144), Speed: at(1536, 0), Left: 39}}
		if next == mostNo {
			want.Pickups = nil
			wantStep(t, "a shot took it", c, w, of(32, order(0, 1, api.Fire, 1, 0)), want, note(1, 0, next))
			continue
		}
		p.No++
		want.Pickups, want.NextNo = []api.Pickup{p}, next+2
		wantStep(t, "behind a shot", c, w, of(32, order(0, 1, api.Fire, 1, 0)), want, note(1, 0, next), note(6, p.Spot, p.Kind))
	}
}

// TestP13_3SpawnSeed: what comes hangs on the session's seed.
func TestP13_3SpawnSeed(t *testing.T) {
	kinds := map[api.Pickup]int{}
	for seed := range uint64(40) {
		c := two()
		c.Seed = seed * 0x9e3779b97f4a7c15
		w := begun(t, c)
		w.Frame = 47
		p := spawned(t, c, 48, nil, 1)
		want := rested(w)
		want.Pickups, want.NextNo = []api.Pickup{p}, 2
		wantStep(t, "a seed", c, w, nil, want, note(6, p.Spot, p.Kind))
		kinds[p]++
	}
	if len(kinds) < 4 {
		t.Errorf("they are all alike: %v", kinds)
	}
}

// TestP13_3SpawnBehindTake: a spot at which one was taken is free in the same frame; what comes is not taken in it.
func TestP13_3SpawnBehindTake(t *testing.T) {
	c := two()
	full := []api.Pickup{{No: 2, Spot: 1, Kind: 3}, {No: 4, Spot: 0, Kind: 2}}
	w := begun(t, c)
	w.Frame, w.Pickups, w.NextNo = 15, full, 5
	wantStep(t, "no spot is free", c, w, nil, rested(w))

	w.Movers[0].At = secondSpot
	p := spawned(t, c, 16, full[1:], 5)
	want := rested(w)
	want.Scores[0].Points, want.Pickups, want.NextNo = 5, []api.Pickup{full[1], p}, 6
	wantStep(t, "one is free again", c, w, nil, want, note(5, 0, 3), note(6, 1, p.Kind))
	if p.Spot != 1 {
		t.Errorf("%+v is not where the mover stands", p)
	}
}

// TestP13_3SpawnEight: where eight lie none comes.
func TestP13_3SpawnEight(t *testing.T) {
	c := two()
	c.Arena = api.Arena{Cols: 13, Rows: 3, Signs: "##############12*********##############"}
	w := begun(t, c)
	w.Frame, w.NextNo = 15, 20
	for i := range 8 {
		w.Pickups = append(w.Pickups, api.Pickup{No: i + 1, Spot: i + 1, Kind: 1})
	}
	wantStep(t, "eight", c, w, nil, rested(w))
	w.Pickups = slices.Clone(w.Pickups[1:])
	p := spawned(t, c, 16, w.Pickups, 20)
	want := rested(w)
	want.Pickups, want.NextNo = append(want.Pickups, p), 21
	wantStep(t, "seven", c, w, nil, want, note(6, p.Spot, p.Kind))
}

// Phase 8.

func TestP13_3Rest(t *testing.T) {
	c := four()
	w := begun(t, c)
	w.Movers[0].Energy, w.Movers[0].Cool = 100, 12
	w.Movers[1].Shield, w.Movers[1].Energy = true, 2
	w.Movers[2].Energy, w.Movers[2].Cool = 99, 1
	w.Movers[3].Shield, w.Movers[3].Energy = true, 3
	want := rested(w)
	want.Movers[0].Cool, want.Movers[2].Cool = 11, 0
	want.Movers[1].Shield, want.Movers[1].Energy = false, 0
	want.Movers[3].Energy = 1
	wantStep(t, "rest", c, w, nil, want)
}

func TestP13_3Back(t *testing.T) {
	starts := []api.Point{at(6144, 6144), at(26624, 6144), at(6144, 18432), at(26624, 18432)}
	c := four()
	w := begun(t, c)
	for seat := range 4 {
		w.Movers[seat] = api.Mover{At: middle, Facing: 15 - seat, Said: 40 + seat, Out: []int{1, 2, 1, 30}[seat]}
	}
	want := rested(w)
	for _, seat := range []int{0, 2} {
		want.Movers[seat] = api.Mover{At: starts[seat], Facing: 15 - seat, Said: 40 + seat, Health: 100, Energy: 50}
	}
	want.Movers[1].Out, want.Movers[3].Out = 1, 29
	wantStep(t, "two are back", c, w, nil, want, note(4, 0, 0), note(4, 2, 0))
	w = want
	want = rested(w)
	want.Movers[1] = api.Mover{At: starts[1], Facing: 14, Said: 41, Health: 100, Energy: 50}
	want.Movers[3].Out = 28
	wantStep(t, "the third one", c, w, nil, want, note(4, 1, 0))
}

// TestP13_3HowLongOut: one that goes out is back 29 frames later, behind 30 rests.
func TestP13_3HowLongOut(t *testing.T) {
	c := two()
	w := begun(t, c)
	w.Frame = 16
	w.Movers[1].At, w.Movers[1].Health = middle, 1
	w.Shots, w.NextNo = []api.Shot{shotAt(1, 0, 1, middle)}, 2
	for rests := 1; rests <= 30; rests++ {
		var commands []api.Command
		if rests > 1 {
			commands = of(w.Frame+1, order(1, 1, api.Steer, 8, 8))
		}
		next, notes, e := world.Step(c, w, commands)
		if e != 0 || next.Movers[1].Out != 30-rests || next.Movers[1].Out > 0 && next.Movers[1].At != middle {
			t.Fatalf("%+v: %+v %d", w, next, e)
		}
		if rests == 30 && (next.Movers[1].At != at(26624, 6144) || notes[len(notes)-1] != note(4, 1, 0)) {
			t.Errorf("%+v %v", next, notes)
		}
		w = next
	}
}
