package peer

import (
	"echelon/api"
	"echelon/ladder"
)

// copies are a peer's ladder, as far as others may ask it. The ladder itself is not embedded: who could put commands into it, or move it, would go past the links and the gate.
type copies struct{ ladder *ladder.Ladder }

// Frames are its copies' (P22.5).
func (c copies) Frames() []int64 { return c.ladder.Frames() }

// World is a copy (P22.5).
func (c copies) World(rung int) (api.World, api.Errno) { return c.ladder.World(rung) }

// Missed are the commands that a copy has missed (P22.5).
func (c copies) Missed(rung int) []api.Command { return c.ladder.Missed(rung) }

// Digest is what its hindmost copy was behind a frame (P22.5).
func (c copies) Digest(frame int64) (uint64, bool) { return c.ladder.Digest(frame) }

// Kept is how many commands its log keeps (P22.5).
func (c copies) Kept() int { return len(c.ladder.Kept()) }

func (c copies) lead() int64 { return c.Frames()[0] }

func (c copies) hind() int64 {
	frames := c.Frames()
	return frames[len(frames)-1]
}
