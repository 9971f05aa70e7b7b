package peer

import (
	"echelon/api"
	"echelon/verb"
)

// Command lays an order for a frame (P22.2).
func (p *Peer) Command(o api.Order, frame int64) api.Errno {
	c := api.Command{Frame: frame, Peer: p.seat, Seq: p.counters.Accepted + 1, Order: o}
	for _, refusal := range refusals() {
		if errno := refusal(p, c); errno != api.OK {
			return errno
		}
	}
	p.lay(c)
	return api.OK
}

// refusals tell what a command must be, in the order in which it is asked: each why it is not, or OK.
func refusals() []func(*Peer, api.Command) api.Errno {
	return []func(*Peer, api.Command) api.Errno{
		(*Peer).wrongOrder,
		(*Peer).wrongStamp,
		(*Peer).noRoom,
	}
}

func (p *Peer) wrongOrder(c api.Command) api.Errno { return verb.Check(c.Order) }

func (p *Peer) wrongStamp(c api.Command) api.Errno {
	lead := p.lead()
	if c.Frame < lead+api.MinStamp || c.Frame > lead+api.MaxStamp {
		return api.ErrStamp
	}
	return api.OK
}

// noRoom asks the ladder: it has forgotten nothing that is above lead.
func (p *Peer) noRoom(c api.Command) api.Errno {
	if p.ladder.Count(c.Frame, p.seat) >= api.MaxPerFrame {
		return api.ErrFull
	}
	return api.OK
}

// lay gives a command out. No link has too many: what is unacknowledged is on frames above the other one's mark less MaxSpan, else that mark would have been refused, so above hind less MaxSpan; and it is on frames up to lead and MaxStamp. These are LogFrames frames at most, with room for this command left on one of them.
func (p *Peer) lay(c api.Command) {
	p.hold(c)
	for _, l := range p.others() {
		l.Lay(c)
	}
	p.counters.Accepted++
}
