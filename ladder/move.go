package ladder

import (
	"echelon/api"
	"echelon/clone"
	"echelon/world"
)

// Move runs the hindmost copy to a frame, and, if they go on, the others (P20.4).
func (l *Ladder) Move(hind int64, on bool) (api.Moves, api.Errno) {
	if !l.mayMove(hind, on) {
		return api.Moves{}, api.ErrLadderGate
	}
	target := l.targets(hind, on)
	m := l.runAlone(target)
	if m.Found > 0 {
		l.copyUp(&m, target)
		l.log.Heal(m.Found)
	}
	l.log.Purge(hind)
	return m, api.OK
}

// mayMove tells whether the hindmost copy may go to a frame. The frame is held to be near ahead of all else, so that what is reckoned with it stays within int64.
func (l *Ladder) mayMove(hind int64, on bool) bool {
	lead, now := l.frame(0), l.frame(l.last())
	if hind < now || hind > now+api.CatchUp {
		return false
	}
	if hind > now && hind > lead+1-l.lag(l.last()) {
		return false
	}
	return !on || lead-hind < api.MaxSpan
}

func (l *Ladder) lag(rung int) int64 { return int64(l.session.Lags[rung]) }

// targets tells how far each rung goes.
func (l *Ladder) targets(hind int64, on bool) func(rung int) int64 {
	lead := l.frame(0)
	if on {
		lead++
	}
	return func(rung int) int64 {
		if rung == l.last() {
			return hind
		}
		return max(0, lead-l.lag(rung))
	}
}

// runAlone lets rungs run by themselves, from the hindmost one on, until one has found something.
func (l *Ladder) runAlone(target func(rung int) int64) api.Moves {
	var m api.Moves
	for rung := l.last(); rung >= 0 && m.Found == 0; rung-- {
		to := target(rung)
		if late := l.late(rung, to); len(late) > 0 {
			m.Found, m.Late = rung, late
		}
		m.Steps += l.run(rung, to, l.log.At)
	}
	return m
}

// late are the commands that the rung ahead has missed, of the frames that a rung has still to run up to one. None is ahead of the leading rung.
func (l *Ladder) late(rung int, to int64) []api.Command {
	var out []api.Command
	for frame := l.frame(rung) + 1; frame <= to && rung > 0; frame++ {
		for _, e := range l.log.At(frame) {
			if e.Missed == rung {
				out = append(out, e.Command)
			}
		}
	}
	return out
}

// copyUp makes each rung ahead of the one that has found something a copy of the rung behind it, and lets it run on from there.
func (l *Ladder) copyUp(m *api.Moves, target func(rung int) int64) {
	m.Wrong = clone.Copy(l.copies[0])
	for rung := m.Found - 1; rung >= 0; rung-- {
		l.copies[rung] = clone.Copy(l.copies[rung+1])
		m.Copied++
		if rung == 0 {
			m.Steps += l.run(rung, m.Wrong.Frame, l.log.At)
			m.Right = clone.Copy(l.copies[rung])
		}
		m.Steps += l.run(rung, target(rung), l.log.At)
	}
}

// run lets a rung run on to a frame, with what a function tells of each frame; it answers how many frames these were. No Step is refused: a copy is always a world of the session, and what is kept are commands that may be.
func (l *Ladder) run(rung int, to int64, entries func(frame int64) []api.Entry) int {
	steps := int(to - l.frame(rung))
	for range steps {
		now := commands(entries(l.frame(rung) + 1))
		l.copies[rung], _, _ = world.Step(l.session, l.copies[rung], now)
		if rung == l.last() {
			l.keepSum(l.copies[rung])
		}
	}
	return steps
}

// commands are those of entries, missed or not.
func commands(entries []api.Entry) []api.Command {
	var out []api.Command
	for _, e := range entries {
		out = append(out, e.Command)
	}
	return out
}
