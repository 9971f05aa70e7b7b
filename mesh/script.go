package mesh

import (
	"sync"

	"echelon/api"
)

// Run does a script: what each call answers (P24.5).
func (m *Mesh) Run(script []api.Call) []api.Errno {
	out := make([]api.Errno, 0, len(script))
	for _, c := range script {
		out = append(out, m.call(c))
	}
	return out
}

func (m *Mesh) call(c api.Call) api.Errno {
	switch c.Kind {
	case api.CallCommand:
		return m.Command(c.Peer, c.Order, c.Frame)
	case api.CallTick:
		return m.Tick(c.Peer)
	case api.CallDeliver:
		return m.Deliver(c.Peer)
	case api.CallDrop:
		return m.Drop(c.Peer)
	case api.CallDouble:
		return m.Double(c.Peer)
	}
	return api.ErrArg
}

// Quiet is rounds in which each peer ticks once, and all that is on its way arrives (P24.4).
func (m *Mesh) Quiet(rounds int) api.Errno {
	if rounds < 0 || rounds > api.MaxRounds {
		return api.ErrArg
	}
	for range rounds {
		m.tickAll()
		m.deliverAll()
	}
	return api.OK
}

// tickAll lets the peers tick side by side. Each has a place of its own for what it sends: nothing is sent ahead of the last one's end, so that the parcels' numbers hang on the seats alone.
func (m *Mesh) tickAll() {
	out := make([][]api.Parcel, len(m.peers))
	var wait sync.WaitGroup
	for seat, p := range m.peers {
		wait.Add(1)
		go func() {
			defer wait.Done()
			out[seat], _ = p.Tick()
		}()
	}
	wait.Wait()
	for _, parcels := range out {
		m.send(parcels)
	}
}

// deliverAll goes through the numbers rather than through Flight, which would copy all bytes that are on their way. What is sent meanwhile has greater numbers than all that was there; a number whose parcel was lost, or has arrived, is passed over.
func (m *Mesh) deliverAll() {
	for m.net.Len() > 0 {
		m.gone++
		m.Deliver(m.gone)
	}
}
