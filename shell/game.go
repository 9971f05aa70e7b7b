package shell

import (
	"strconv"

	"echelon/api"
	"echelon/mesh"
)

// game is the one that was begun last.
type game struct {
	session api.Config
	mesh    *mesh.Mesh
}

// begin begins one of a session that may be: a mesh of it is not refused.
func (g *game) begin(o operands) string {
	g.session = o.session
	g.mesh, _ = mesh.New(o.session)
	return result(api.OK)
}

func (g *game) order(o operands) string {
	return result(g.mesh.Command(o.seat, o.order, int64(o.frame)))
}

func (g *game) tick(o operands) string {
	errno := g.mesh.Tick(o.seat)
	if errno == api.ErrStall {
		return stall
	}
	return result(errno)
}

func (g *game) deliver(o operands) string { return result(g.mesh.Deliver(o.number)) }

func (g *game) drop(o operands) string { return result(g.mesh.Drop(o.number)) }

func (g *game) double(o operands) string { return result(g.mesh.Double(o.number)) }

func (g *game) quiet(o operands) string { return result(g.mesh.Quiet(o.number)) }

func (g *game) flight(operands) string { return several(each(g.mesh.Flight(), parcelText)) }

func (g *game) table(operands) string { return several(each(g.mesh.Table(), commandText)) }

func parcelText(p api.Parcel) string {
	return strconv.Itoa(p.No) + ":" + strconv.Itoa(p.From) + ">" + strconv.Itoa(p.To)
}
