package view

import (
	"strconv"
	"strings"

	"echelon/api"
	"echelon/arena"
	"echelon/world"
)

// The signs of cells in which no mover is, and no pickup lies.
const (
	wall   = "#"
	flying = "o"
	free   = "."
)

// Show is a world as text (P23.1).
func Show(c api.Config, w api.World) (string, api.Errno) {
	if world.Check(c, w) != api.OK {
		return "", api.ErrViewNone
	}
	lines := []string{"frame " + strconv.FormatInt(w.Frame, 10)}
	lines = append(lines, mapLines(c.Arena, w)...)
	for seat := range c.Peers {
		lines = append(lines, seatLine(seat, w.Movers[seat], w.Scores[seat]))
	}
	return ended(lines), api.OK
}

// scene is a world on its map. The points of the spots stand beside it, for the whole map is gone through to find them.
type scene struct {
	arena api.Arena
	spots []api.Point
	world api.World
}

func mapLines(a api.Arena, w api.World) []string {
	s := scene{arena: a, spots: arena.Spots(a), world: w}
	var lines []string
	for row := range a.Rows {
		var line strings.Builder
		for col := range a.Cols {
			line.WriteString(s.sign(cell{col: col, row: row}))
		}
		lines = append(lines, line.String())
	}
	return lines
}

// sign is what stands for a cell: the first of what is in it.
func (s scene) sign(here cell) string {
	if arena.Solid(s.arena, here.col, here.row) {
		return wall
	}
	for seat, m := range s.world.Movers {
		if m.Out == 0 && cellOf(m.At) == here {
			return letter(seat)
		}
	}
	for _, x := range s.world.Shots {
		if cellOf(x.At) == here {
			return flying
		}
	}
	for _, p := range s.world.Pickups {
		if cellOf(s.spots[p.Spot]) == here {
			return pickupKinds[p.Kind].sign
		}
	}
	return free
}

// cell is a place of a map, or beside it.
type cell struct {
	col int
	row int
}

func cellOf(p api.Point) cell { return cell{col: down(p.X), row: down(p.Y)} }

// down is a number by Cell, downwards. A cell's side is a power of 2, so what is taken away are the low bits, also of a number below 0.
func down(n int) int { return (n - n&(api.Cell-1)) / api.Cell }

func seatLine(seat int, m api.Mover, s api.Score) string {
	line := letter(seat) + " at " + strconv.Itoa(m.At.X) + "," + strconv.Itoa(m.At.Y) + " " +
		joined(named{"health", m.Health}, named{"energy", m.Energy}, named{"points", s.Points})
	if m.Shield {
		line += " shield"
	}
	if m.Out > 0 {
		line += " out " + strconv.Itoa(m.Out)
	}
	return line
}
