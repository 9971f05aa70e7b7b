package peer

import (
	"echelon/api"
	"echelon/wire"
)

// Tick goes on by a frame: what is sent (P22.3).
func (p *Peer) Tick() ([]api.Parcel, api.Errno) {
	p.counters.Ticks++
	stall := p.move()
	out := p.send(p.turns()...)
	if stall {
		p.counters.Stalls++
		return out, api.ErrStall
	}
	return out, api.OK
}

// move lets the copies go as far as the gate says, and tells whether the leading one stays. Neither refuses: lead is never further ahead of hind than MaxSpan, and a plan is what a ladder may do.
func (p *Peer) move() bool {
	plan, _ := p.gate.Plan(p.lead(), p.hind(), p.lag)
	p.last, _ = p.ladder.Move(plan.Hind, !plan.Stall)
	p.counters.Steps += p.last.Steps
	p.counters.Copies += p.last.Copied
	p.counters.Late += len(p.last.Late)
	return plan.Stall
}

// turns are the datagrams for the others, with lead as the mark.
func (p *Peer) turns() []api.Datagram {
	var out []api.Datagram
	for _, l := range p.others() {
		out = append(out, l.Turn(p.lead()))
	}
	return out
}

// send makes parcels of datagrams, and counts them. Those that a link makes may be, so they have bytes.
func (p *Peer) send(datagrams ...api.Datagram) []api.Parcel {
	var out []api.Parcel
	for _, d := range datagrams {
		b, _ := wire.Encode(d)
		out = append(out, api.Parcel{From: d.From, To: d.To, Bytes: b})
	}
	p.counters.Sent += len(out)
	return out
}

// Receive takes a datagram: what is sent (P22.4).
func (p *Peer) Receive(b []byte) ([]api.Parcel, api.Errno) {
	d, errno := p.open(b)
	if errno != api.OK {
		return p.refuse(errno)
	}
	from := p.links[d.From]
	fresh, brought, errno := from.Take(d, p.lead())
	if errno != api.OK {
		return p.refuse(errno)
	}
	p.counters.Got++
	for _, c := range fresh {
		p.hold(c)
	}
	p.gate.Mark(d.From, from.State().Mark)
	if d.Kind != api.Turn || !brought {
		return nil, api.OK
	}
	return p.send(from.Ack()), api.OK
}

func (p *Peer) refuse(errno api.Errno) ([]api.Parcel, api.Errno) {
	p.counters.Refused++
	return nil, errno
}

// open is the datagram that has these bytes, if it is one for this peer, from another one of its session. The link would say so too, but without such a seat there is none to ask.
func (p *Peer) open(b []byte) (api.Datagram, api.Errno) {
	d, errno := wire.Decode(b)
	switch {
	case errno != api.OK:
		return api.Datagram{}, errno
	case d.Session != p.session:
		return api.Datagram{}, api.ErrStranger
	case d.To != p.seat || !p.isOther(d.From):
		return api.Datagram{}, api.ErrSeat
	}
	return d, api.OK
}

func (p *Peer) isOther(seat int) bool {
	return seat >= 0 && seat < len(p.links) && seat != p.seat
}
