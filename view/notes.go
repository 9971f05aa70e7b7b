package view

import (
	"strconv"

	"echelon/api"
)

// row is one of the table of notes: what the numbers of a note of that kind must be, and how it is told.
type row struct {
	kind int
	a    func(int) bool
	b    func(int) bool
	tell func(api.Note) string
}

// Notes are notes as text, a line each (P23.3).
func Notes(l []api.Note) (string, api.Errno) {
	all := rows()
	var lines []string
	for _, n := range l {
		r, is := rowOf(all, n.Kind)
		if !is || !r.a(n.A) || !r.b(n.B) {
			return "", api.ErrViewNone
		}
		lines = append(lines, r.tell(n))
	}
	return ended(lines), api.OK
}

func rowOf(all []row, kind int) (row, bool) {
	for _, r := range all {
		if r.kind == kind {
			return r, true
		}
	}
	return row{}, false
}

func rows() []row {
	return []row{
		{kind: api.NoteFired, a: isSeat, b: isAny, tell: func(n api.Note) string { return letter(n.A) + " fired " + strconv.Itoa(n.B) }},
		{kind: api.NoteHit, a: isSeat, b: isSeat, tell: func(n api.Note) string { return letter(n.A) + " hit by " + letter(n.B) }},
		{kind: api.NoteOut, a: isSeat, b: isSeat, tell: func(n api.Note) string { return letter(n.A) + " out by " + letter(n.B) }},
		{kind: api.NoteBack, a: isSeat, b: isAny, tell: func(n api.Note) string { return letter(n.A) + " back" }},
		{kind: api.NoteTook, a: isSeat, b: isKind, tell: func(n api.Note) string { return letter(n.A) + " took " + pickupKinds[n.B].name }},
		{kind: api.NoteSpawn, a: isAny, b: isKind, tell: func(n api.Note) string { return "spot " + strconv.Itoa(n.A) + " " + pickupKinds[n.B].name }},
		{kind: api.NoteBounce, a: isSeat, b: isSeat, tell: func(n api.Note) string { return letter(n.A) + " bounces " + letter(n.B) }},
		{kind: api.NoteSaid, a: isSeat, b: isAny, tell: func(n api.Note) string { return letter(n.A) + " says " + strconv.Itoa(n.B) }},
	}
}

func isAny(int) bool { return true }
