package geom

import "echelon/api"

// Check tells whether a box may be (P5.4).
func Check(b api.Box) api.Errno {
	// The box between the bounded corners is another one, if a number is beyond its bounds or Min above Max.
	if between(Bound(b.Min), Bound(b.Max)) != b {
		return api.ErrGeomBox
	}
	return api.OK
}

// between is the least box that has two points.
func between(p, q api.Point) api.Box {
	return api.Box{Min: lesser(p, q), Max: greater(p, q)}
}

// lesser and greater are those of two points, on each axis.
func lesser(p, q api.Point) api.Point {
	return api.Point{X: min(p.X, q.X), Y: min(p.Y, q.Y)}
}

func greater(p, q api.Point) api.Point {
	return api.Point{X: max(p.X, q.X), Y: max(p.Y, q.Y)}
}

// Around is the box around a point (P5.4).
func Around(p api.Point, radius int) api.Box {
	r := size(radius)
	corner := api.Point{X: r, Y: r}
	return api.Box{Min: Sub(p, corner), Max: Add(p, corner)}
}

// Inside tells whether a box has a point (P5.5).
func Inside(b api.Box, p api.Point) bool {
	// A point beyond the bounds is a box that may not be: and none that may be has it.
	return Overlap(b, api.Box{Min: p, Max: p})
}

// Overlap tells whether two boxes have a point in common (P5.5).
func Overlap(a, b api.Box) bool {
	_, is := Meet(a, b)
	return is
}

// Meet is what two boxes have in common (P5.5).
func Meet(a, b api.Box) (api.Box, bool) {
	if Check(a) != api.OK || Check(b) != api.OK {
		return api.Box{}, false
	}
	common := api.Box{Min: greater(a.Min, b.Min), Max: lesser(a.Max, b.Max)}
	if Check(common) != api.OK {
		return api.Box{}, false
	}
	return common, true
}
