package queue

import (
	"cmp"
	"slices"

	"echelon/api"
)

// entries are what container/heap keeps in order.
type entries []api.Entry

// compare is below 0 if a is ahead of b, and 0 if their keys are the same: orders and misses count for nothing.
func compare(a, b api.Entry) int {
	return cmp.Or(
		cmp.Compare(a.Command.Frame, b.Command.Frame),
		cmp.Compare(a.Command.Peer, b.Command.Peer),
		cmp.Compare(a.Command.Seq, b.Command.Seq),
	)
}

// has tells whether an entry with the key of e is there. They are all asked: a heap can't say where a key would stand.
func (l entries) has(e api.Entry) bool {
	return slices.ContainsFunc(l, func(other api.Entry) bool { return compare(e, other) == 0 })
}

func (l entries) Len() int { return len(l) }

func (l entries) Less(i, j int) bool { return compare(l[i], l[j]) < 0 }

func (l entries) Swap(i, j int) { l[i], l[j] = l[j], l[i] }

// Push puts one at the end; heap.Push then moves it to its place.
func (l *entries) Push(x any) { *l = append(*l, x.(api.Entry)) }

// Pop takes the last one off, where heap.Pop has put the least one.
func (l *entries) Pop() any {
	last := len(*l) - 1
	e := (*l)[last]
	*l = (*l)[:last]
	return e
}
