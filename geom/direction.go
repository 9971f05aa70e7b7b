package geom

import "echelon/api"

// directions is how many there are: a power of 2, so that the low bits of any int, also of one below 0, are what is left of it.
const directions = 16

// units are the ways of the length 1, up to rounding, by directions.
var units = [directions]api.Point{
	{X: 256, Y: 0}, {X: 237, Y: 98}, {X: 181, Y: 181}, {X: 98, Y: 237},
	{X: 0, Y: 256}, {X: -98, Y: 237}, {X: -181, Y: 181}, {X: -237, Y: 98},
	{X: -256, Y: 0}, {X: -237, Y: -98}, {X: -181, Y: -181}, {X: -98, Y: -237},
	{X: 0, Y: -256}, {X: 98, Y: -237}, {X: 181, Y: -181}, {X: 237, Y: -98},
}

// Unit is a way of the length 1 in one of sixteen directions (P5.3).
func Unit(direction int) api.Point { return units[counted(direction)] }

// Turn is another direction (P5.3).
func Turn(direction, by int) int { return counted(counted(direction) + counted(by)) }

// Heading is the direction that is nearest to a way (P5.3).
func Heading(p api.Point) int {
	p = Bound(p)
	best := 0
	for d := range directions {
		if along(p, units[d]) > along(p, units[best]) {
			best = d
		}
	}
	return best
}

// counted is the direction that any int counts as.
func counted(n int) int { return n & (directions - 1) }

// along is how far a way leads into the direction of another one.
func along(p, unit api.Point) int { return p.X*unit.X + p.Y*unit.Y }
