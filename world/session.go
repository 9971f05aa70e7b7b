package world

import (
	"cmp"

	"echelon/api"
	"echelon/arena"
	"echelon/verb"
)

// session is a Config that may be so, and the points of its map, which are asked for once: each question goes through the whole map.
type session struct {
	api.Config
	starts []api.Point
	spots  []api.Point
}

// open makes a session of a Config; of one that may not be so it tells the error.
func open(c api.Config) (session, api.Errno) {
	if !within(c.Peers, api.MinPeers, api.MaxPeers) || !mayLag(c.Lags) || arena.Check(c.Arena) != api.OK {
		return session{}, api.ErrWorldConfig
	}
	s := session{Config: c, starts: arena.Starts(c.Arena), spots: arena.Spots(c.Arena)}
	if len(s.starts) < c.Peers {
		return session{}, api.ErrWorldConfig
	}
	return s, api.OK
}

// mayLag tells whether lags may be those of a session's rungs.
func mayLag(lags []int) bool {
	if !within(len(lags), api.MinRungs, api.MaxRungs) || lags[0] != 0 {
		return false
	}
	for i := 1; i < len(lags); i++ {
		if lags[i] <= lags[i-1] {
			return false
		}
	}
	return lags[len(lags)-1] < api.MaxSpan
}

// mayRun tells whether commands may be those of a frame.
func (s session) mayRun(frame int64, commands []api.Command) bool {
	for i, c := range commands {
		if c.Frame != frame || !s.mayOrder(c) || i > 0 && inTurn(commands[i-1], c) >= 0 {
			return false
		}
	}
	return true
}

// mayOrder tells whether a command may be one of some frame.
func (s session) mayOrder(c api.Command) bool {
	return within(c.Peer, 0, s.Peers-1) && c.Seq >= 1 && verb.Check(c.Order) == api.OK
}

// inTurn says which of two commands of a frame runs first: 0, if they are of the same peer and number.
func inTurn(a, b api.Command) int {
	return cmp.Or(cmp.Compare(a.Peer, b.Peer), cmp.Compare(a.Seq, b.Seq))
}
