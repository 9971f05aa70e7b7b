package link

import (
	"maps"
	"slices"

	"echelon/api"
	"echelon/wire"
)

// Take takes a datagram: the commands that are new, and whether it brought anything (P18.4, P18.5).
func (l *Link) Take(d api.Datagram, lead int64) ([]api.Command, bool, api.Errno) {
	if errno := l.refusal(d, lead); errno != api.OK {
		return nil, false, errno
	}
	// What is new is so by what came ahead of this datagram.
	fresh := copied(l.fresh(d))
	brought := false
	for _, part := range []func(api.Datagram) bool{l.acknowledge, l.receive, l.raise} {
		brought = part(d) || brought
	}
	l.state.Met = true
	return fresh, brought, api.OK
}

// refusal is why a datagram is not taken; OK, if it is (P18.4).
func (l *Link) refusal(d api.Datagram, lead int64) api.Errno {
	switch {
	case wire.Check(d) != api.OK:
		return api.ErrWireData
	case d.Session != l.session:
		return api.ErrStranger
	case d.From != l.other || d.To != l.self:
		return api.ErrSeat
	case d.Kind == api.Turn && d.First > l.state.Next:
		return api.ErrGap
	case d.Ack > l.state.Own:
		return api.ErrBroken
	case d.Kind == api.Turn && (l.runsAhead(d, lead) || l.misplaces(d)):
		return api.ErrBroken
	}
	return api.OK
}

// runsAhead tells whether a Turn's mark is further ahead than its sender can be: of lead, or of an own command for which it still waits.
func (l *Link) runsAhead(d api.Datagram, lead int64) bool {
	// A mark is at least 0, so this much can be taken from it; to a lead at the end of its type nothing can be added.
	hind := d.Mark - api.MaxSpan
	waits := func(c api.Command) bool { return c.Frame <= hind }
	return hind > lead || slices.ContainsFunc(l.above(d.Ack), waits)
}

// misplaces tells whether one of a Turn's new commands is on a frame on which its sender can't have laid it.
func (l *Link) misplaces(d api.Datagram) bool {
	onFrame := maps.Clone(l.onFrame)
	for _, c := range l.fresh(d) {
		onFrame[c.Frame]++
		if c.Frame <= l.state.Mark || c.Frame > d.Mark+api.MaxStamp || onFrame[c.Frame] > api.MaxPerFrame {
			return true
		}
	}
	return false
}

// fresh are a datagram's commands that have not come yet; an Ack has none.
func (l *Link) fresh(d api.Datagram) []api.Command {
	old := l.state.Next - d.First
	return from(d.Commands, min(old, len(d.Commands)))
}

// acknowledge lets go of the own commands that the other one has, and tells whether there were any.
func (l *Link) acknowledge(d api.Datagram) bool {
	if d.Ack <= l.state.Acked {
		return false
	}
	l.kept = l.above(d.Ack)
	l.state.Acked = d.Ack
	return true
}

// receive counts what is new, and tells whether anything is.
func (l *Link) receive(d api.Datagram) bool {
	fresh := l.fresh(d)
	for _, c := range fresh {
		l.onFrame[c.Frame]++
	}
	l.state.Next += len(fresh)
	return len(fresh) > 0
}

// raise sets the mark, if this one is greater, and tells whether it is. Behind it no command can be new on a frame up to it, so these are not counted any longer.
func (l *Link) raise(d api.Datagram) bool {
	if d.Mark <= l.state.Mark {
		return false
	}
	l.state.Mark = d.Mark
	maps.DeleteFunc(l.onFrame, func(frame int64, _ int) bool { return frame <= d.Mark })
	return true
}
