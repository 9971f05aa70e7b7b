package score

import (
	"cmp"

	"echelon/api"
)

// table is the scores that are ranked, by their places.
type table []api.Score

// ahead is below 0, if place a is ahead of place b. No two places are alike to it, so that there is one ranking alone, however it is sorted.
func (t table) ahead(a, b int) int {
	return cmp.Or(
		cmp.Compare(t[b].Points, t[a].Points),
		cmp.Compare(t[a].Outs, t[b].Outs),
		cmp.Compare(t[b].Hits, t[a].Hits),
		cmp.Compare(a, b),
	)
}
