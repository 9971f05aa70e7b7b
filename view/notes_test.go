package view_test

import (
	"fmt"
	"math"
	"slices"
	"testing"

	"echelon/api"
	"echelon/view"
)

// goodNotes has one of each kind, and how it is told.
var goodNotes = []struct {
	note api.Note
	line string
}{
	{api.Note{Kind: 1, A: 0, B: 7}, "A fired 7"},
	{api.Note{Kind: 2, A: 1, B: 2}, "B hit by C"},
	{api.Note{Kind: 3, A: 3, B: 4}, "D out by E"},
	{api.Note{Kind: 4, A: 5, B: 0}, "F back"},
	{api.Note{Kind: 5, A: 4, B: 1}, "E took heal"},
	{api.Note{Kind: 6, A: 11, B: 2}, "spot 11 charge"},
	{api.Note{Kind: 7, A: 2, B: 5}, "C bounces F"},
	{api.Note{Kind: 8, A: 3, B: 255}, "D says 255"},
}

func TestP23_3None(t *testing.T) {
	for _, l := range [][]api.Note{nil, {}} {
		text, e := view.Notes(l)
		tells(t, "no notes", text, e)
	}
}

// TestP23_3EachKind: one by one, all together, and in the other order.
func TestP23_3EachKind(t *testing.T) {
	var all []api.Note
	var want []string
	for _, x := range goodNotes {
		text, e := view.Notes([]api.Note{x.note})
		tells(t, fmt.Sprint(x.note), text, e, x.line)
		all, want = append(all, x.note), append(want, x.line)
	}
	text, e := view.Notes(all)
	tells(t, "all", text, e, want...)
	slices.Reverse(all)
	slices.Reverse(want)
	text, e = view.Notes(all)
	tells(t, "all, the last one first", text, e, want...)
	text, e = view.Notes([]api.Note{all[2], all[2], all[0], all[2]})
	tells(t, "one of them again and again", text, e, want[2], want[2], want[0], want[2])
}

// TestP23_3Seats: each seat, on both sides.
func TestP23_3Seats(t *testing.T) {
	for a := range 6 {
		for b := range 6 {
			l := []api.Note{{Kind: 1, A: a, B: b}, {Kind: 2, A: a, B: b}, {Kind: 3, A: a, B: b}, {Kind: 4, A: a, B: b}, {Kind: 7, A: a, B: b}, {Kind: 8, A: a, B: b}}
			x, y := string(rune('A'+a)), string(rune('A'+b))
			text, e := view.Notes(l)
			tells(t, "of two seats", text, e, fmt.Sprintf("%s fired %d", x, b), x+" hit by "+y, x+" out by "+y, x+" back", x+" bounces "+y, fmt.Sprintf("%s says %d", x, b))
		}
	}
}

// TestP23_3Kinds: what is taken, and what comes, by its three kinds.
func TestP23_3Kinds(t *testing.T) {
	text, e := view.Notes([]api.Note{{Kind: 5, A: 0, B: 1}, {Kind: 5, A: 1, B: 2}, {Kind: 5, A: 5, B: 3}, {Kind: 6, A: 0, B: 1}, {Kind: 6, A: 15, B: 2}, {Kind: 6, A: 1, B: 3}})
	tells(t, "kinds", text, e, "A took heal", "B took charge", "F took prize", "spot 0 heal", "spot 15 charge", "spot 1 prize")
}

// TestP23_3Ends: numbers that are told, or not, may be anything where they are neither a seat nor a kind.
func TestP23_3Ends(t *testing.T) {
	text, e := view.Notes([]api.Note{
		{Kind: 1, A: 5, B: math.MinInt}, {Kind: 1, A: 0, B: math.MaxInt}, {Kind: 1, A: 0, B: -1}, {Kind: 1, A: 0, B: 0},
		{Kind: 4, A: 0, B: math.MinInt}, {Kind: 4, A: 5, B: math.MaxInt}, {Kind: 4, A: 5, B: -1},
		{Kind: 6, A: math.MinInt, B: 3}, {Kind: 6, A: math.MaxInt, B: 1}, {Kind: 6, A: -1, B: 2},
		{Kind: 8, A: 5, B: math.MinInt}, {Kind: 8, A: 0, B: math.MaxInt}, {Kind: 8, A: 0, B: -1}, {Kind: 8, A: 0, B: 256},
	})
	tells(t, "ends", text, e,
		"F fired -9223372036854775808", "A fired 9223372036854775807", "A fired -1", "A fired 0",
		"A back", "F back", "F back",
		"spot -9223372036854775808 prize", "spot 9223372036854775807 heal", "spot -1 charge",
		"F says -9223372036854775808", "A says 9223372036854775807", "A says -1", "A says 256",
	)
}

// TestP23_3AllNumbers: each kind, and such as are none, with each two numbers at which a reading may go wrong.
func TestP23_3AllNumbers(t *testing.T) {
	refusals := 0
	for _, kind := range ints {
		for _, a := range ints {
			for _, b := range ints {
				n := api.Note{Kind: kind, A: a, B: b}
				text, e := view.Notes([]api.Note{n})
				line, is := meantNote(n)
				if is {
					tells(t, fmt.Sprint(n), text, e, line)
				} else {
					refused(t, fmt.Sprint(n), text, e)
					refusals++
				}
			}
		}
	}
	if all := len(ints) * len(ints) * len(ints); refusals < all/2 || refusals == all {
		t.Errorf("%d refusals", refusals)
	}
}

// badNotes are some that are not as they must be, each for one reason.
var badNotes = []api.Note{
	{}, {Kind: 9}, {Kind: -1}, {Kind: math.MinInt}, {Kind: math.MaxInt}, {Kind: 1<<32 + 1},
	{Kind: 1, A: -1}, {Kind: 1, A: 6}, {Kind: 1, A: math.MinInt}, {Kind: 1, A: math.MaxInt},
	{Kind: 2, A: -1, B: 0}, {Kind: 2, A: 6, B: 0}, {Kind: 2, A: 0, B: -1}, {Kind: 2, A: 0, B: 6}, {Kind: 2, A: 6, B: 6},
	{Kind: 3, A: -1, B: 0}, {Kind: 3, A: 6, B: 0}, {Kind: 3, A: 0, B: -1}, {Kind: 3, A: 0, B: 6}, {Kind: 3, A: -1, B: -1},
	{Kind: 4, A: -1}, {Kind: 4, A: 6},
	{Kind: 5, A: -1, B: 1}, {Kind: 5, A: 6, B: 1}, {Kind: 5, A: 0, B: 0}, {Kind: 5, A: 0, B: 4}, {Kind: 5, A: 6, B: 4},
	{Kind: 6, A: 0, B: 0}, {Kind: 6, A: 0, B: 4}, {Kind: 6, A: 0, B: -1}, {Kind: 6, A: 0, B: math.MaxInt},
	{Kind: 7, A: -1, B: 0}, {Kind: 7, A: 6, B: 0}, {Kind: 7, A: 0, B: -1}, {Kind: 7, A: 0, B: 6},
	{Kind: 8, A: -1}, {Kind: 8, A: 6},
}

// TestP23_3OneBad: ahead of, between and behind good ones, and beside another one.
func TestP23_3OneBad(t *testing.T) {
	var good []api.Note
	for _, x := range goodNotes {
		good = append(good, x.note)
	}
	for _, bad := range badNotes {
		text, e := view.Notes([]api.Note{bad})
		refused(t, fmt.Sprint(bad), text, e)
		for place := range len(good) + 1 {
			l := slices.Insert(slices.Clone(good), place, bad)
			text, e := view.Notes(l)
			refused(t, fmt.Sprintf("%v at place %d", bad, place), text, e)
			text, e = view.Notes(append(l, api.Note{Kind: 9}))
			refused(t, fmt.Sprintf("%v at place %d, and one more", bad, place), text, e)
		}
	}
	text, e := view.Notes(good)
	if e != api.OK || len(lines(t, text)) != len(good) {
		t.Errorf("%q %d", text, e)
	}
}
