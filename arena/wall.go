package arena

import (
	"echelon/api"
	"echelon/geom"
)

// Solid tells whether a cell is a wall (P6.5).
func Solid(a api.Arena, col, row int) bool {
	if col < 0 || col >= a.Cols || row < 0 || row >= a.Rows {
		return true
	}
	// The rows that have a sign in this column are counted, as row * Cols + col may go round.
	if col >= len(a.Signs) || row > (len(a.Signs)-1-col)/a.Cols {
		return true
	}
	return a.Signs[row*a.Cols+col] == wall
}

// cellAt is the column and the row of the cell that has a point.
func cellAt(p api.Point) (int, int) {
	return (p.X - inCell(p.X)) / api.Cell, (p.Y - inCell(p.Y)) / api.Cell
}

// inCell is how far a number lies behind the beginning of its cell. A cell's side is a power of 2, so these are the low bits also of a number below 0.
func inCell(n int) int { return n & (api.Cell - 1) }

// Touches tells whether a box touches a wall (P6.5).
func Touches(a api.Arena, b api.Box) bool {
	if geom.Check(b) != api.OK {
		return false
	}
	firstCol, firstRow := cellAt(b.Min)
	lastCol, lastRow := cellAt(b.Max)
	found := false
	// Each free cell has a sign of its own: so the search ends with Signs, however great the box.
search:
	for row := firstRow; row <= lastRow; row++ {
		for col := firstCol; col <= lastCol; col++ {
			if Solid(a, col, row) {
				found = true
				break search
			}
		}
	}
	return found
}
