package world

import (
	"slices"

	"echelon/api"
)

// Ref is the world behind so many frames, by commands in any order (P13.4).
func Ref(c api.Config, frame int64, commands []api.Command) (api.World, api.Errno) {
	s, errno := open(c)
	if errno != api.OK {
		return api.World{}, errno
	}
	if !within(frame, 0, api.MaxRef) {
		return api.World{}, api.ErrArg
	}
	commands = slices.Clone(commands)
	slices.SortFunc(commands, inTurn)
	if !s.mayOrderAll(commands) {
		return api.World{}, api.ErrWorldCommand
	}
	w := s.begin()
	for _, now := range byFrames(commands, frame) {
		w, _ = s.step(w, now)
	}
	return w, api.OK
}

// mayOrderAll tells whether commands, of whatever frames, may be a session's; those of the same peer and number lie side by side.
func (s session) mayOrderAll(commands []api.Command) bool {
	for i, c := range commands {
		if !s.mayOrder(c) || i > 0 && inTurn(commands[i-1], c) == 0 {
			return false
		}
	}
	return true
}

// byFrames are the commands of each of the frames 1 to last, in the order in which they are handed in.
func byFrames(commands []api.Command, last int64) [][]api.Command {
	frames := make([][]api.Command, last)
	for _, c := range commands {
		if within(c.Frame, 1, last) {
			frames[c.Frame-1] = append(frames[c.Frame-1], c)
		}
	}
	return frames
}
