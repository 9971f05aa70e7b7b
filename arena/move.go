package arena

import (
	"echelon/api"
	"echelon/geom"
)

// What Slide tells of the axes on which a body was stopped.
const (
	stoppedX = 1
	stoppedY = 2
)

// Slide is where a body comes that goes a way, and what stopped it (P6.6).
func Slide(a api.Arena, at, by api.Point, radius int) (api.Point, int) {
	at, by, radius = geom.Bound(at), step(by), clamp(radius, 0, api.Cell)
	stopped := 0
	at, whole := slideOn(a, at, api.Point{X: by.X}, radius)
	if !whole {
		stopped += stoppedX
	}
	at, whole = slideOn(a, at, api.Point{Y: by.Y}, radius)
	if !whole {
		stopped += stoppedY
	}
	return at, stopped
}

// step is a way as it counts in one step.
func step(by api.Point) api.Point {
	return api.Point{X: clamp(by.X, -api.MaxStep, api.MaxStep), Y: clamp(by.Y, -api.MaxStep, api.MaxStep)}
}

func clamp(n, least, most int) int { return min(max(n, least), most) }

// slideOn is where a body comes on one axis, and whether it came all the way.
func slideOn(a api.Arena, at, by api.Point, radius int) (api.Point, bool) {
	n := size(by)
	gone := 0
	for gone < n {
		body := geom.Around(part(at, by, gone+1, n), radius)
		if Touches(a, body) {
			return part(at, by, gone, n), false
		}
		gone += 1 + spare(body, by)
	}
	return geom.Add(at, by), true
}

// size is the greater one of the sizes of a step's numbers.
func size(by api.Point) int { return max(by.X, -by.X, by.Y, -by.Y) }

// part is the point that j of n parts of a way lead to, without the rest.
func part(at, by api.Point, j, n int) api.Point {
	return geom.Add(at, api.Point{X: by.X * j / n, Y: by.Y * j / n})
}

// spare is how much further a body can go on one axis till its edge ahead comes into other cells: up to there it touches nothing that it does not touch already.
func spare(body api.Box, by api.Point) int {
	switch {
	case by.X > 0:
		return api.Cell - 1 - inCell(body.Max.X)
	case by.X < 0:
		return inCell(body.Min.X)
	case by.Y > 0:
		return api.Cell - 1 - inCell(body.Max.Y)
	}
	return inCell(body.Min.Y)
}

// rayPart is how far a ray comes at most from one point that is looked at to the next, on each axis.
const rayPart = 64

// Ray is where a point comes that goes a way, and whether a wall stopped it (P6.7).
func Ray(a api.Arena, at, by api.Point) (api.Point, bool) {
	at, by = geom.Bound(at), step(by)
	n := (size(by) + rayPart - 1) / rayPart
	come := at
	for j := 1; j <= n; j++ {
		next := part(at, by, j, n)
		if col, row := cellAt(next); Solid(a, col, row) {
			return come, true
		}
		come = next
	}
	return come, false
}
