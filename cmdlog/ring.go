package cmdlog

import (
	"echelon/api"
	"echelon/queue"
)

// ring has a list for each frame that is kept, its entries in order. A frame's place is taken again LogFrames later, when the frame is no longer kept.
type ring [api.LogFrames][]api.Entry

// place is where a frame's list stands; frames that are kept are above 0.
func place(frame int64) int { return int(frame % api.LogFrames) }

func (r *ring) at(frame int64) []api.Entry { return r[place(frame)] }

// put takes one in at its frame. Which one is ahead is the queue's to say: a frame's entries are few, and unlike, so it has room for them.
func (r *ring) put(e api.Entry) {
	q := queue.New()
	for _, other := range r.at(e.Command.Frame) {
		q.Push(other)
	}
	q.Push(e)
	r[place(e.Command.Frame)] = q.All()
}

// forget clears a frame's place, and tells how many entries were there.
func (r *ring) forget(frame int64) int {
	i := place(frame)
	n := len(r[i])
	clear(r[i : i+1])
	return n
}
