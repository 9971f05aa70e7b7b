package shell

import (
	"strconv"
	"strings"

	"echelon/api"
	"echelon/digest"
	"echelon/peer"
	"echelon/view"
)

// ask lets the peer of a seat be asked, if there is one.
func (g *game) ask(o operands, tell func(*peer.Peer) string) string {
	p := g.mesh.Peer(o.seat)
	if p == nil {
		return result(api.ErrMeshPeer)
	}
	return tell(p)
}

func (g *game) frames(o operands) string {
	return g.ask(o, func(p *peer.Peer) string {
		return strings.Join(each(p.Frames(), frameText), blank)
	})
}

func frameText(frame int64) string { return strconv.FormatInt(frame, 10) }

func (g *game) held(o operands) string {
	return g.ask(o, func(p *peer.Peer) string {
		return several(each(p.Held(), commandText))
	})
}

func (g *game) missed(o operands) string {
	return g.ask(o, func(p *peer.Peer) string {
		return several(each(p.Missed(o.rung), commandText))
	})
}

func (g *game) sum(o operands) string {
	return g.ask(o, func(p *peer.Peer) string {
		d, is := p.Digest(int64(o.frame))
		if !is {
			return none
		}
		return digest.Print(d)
	})
}

func (g *game) links(o operands) string {
	return g.ask(o, func(p *peer.Peer) string {
		var texts []string
		for seat, s := range p.Links() {
			if seat != o.seat {
				texts = append(texts, linkText(seat, s))
			}
		}
		return several(texts)
	})
}

func linkText(seat int, s api.LinkState) string {
	numbers := []string{strconv.Itoa(s.Own), strconv.Itoa(s.Acked), strconv.Itoa(s.Next), frameText(s.Mark)}
	return strconv.Itoa(seat) + ":" + strings.Join(numbers, "/")
}

func (g *game) count(o operands) string {
	return g.ask(o, func(p *peer.Peer) string {
		return view.Print(p.Counters())
	})
}

// put asks of two worlds of one session, or of none: these are never refused.
func (g *game) put(o operands) string {
	return g.ask(o, func(p *peer.Peer) string {
		last := p.Last()
		l, _ := view.Correct(last.Wrong, last.Right)
		return several(each(l, correctionText))
	})
}

// letters are those of the seats, one behind the other.
const letters = "ABCDEF"

func correctionText(c api.Correction) string {
	words := []string{
		letters[c.Peer : c.Peer+1],
		pointText(c.Before),
		pointText(c.After),
		strconv.Itoa(c.Health),
		strconv.Itoa(c.Points),
	}
	return strings.Join(words, blank)
}

func pointText(p api.Point) string { return strconv.Itoa(p.X) + "," + strconv.Itoa(p.Y) }

func (g *game) show(o operands) string {
	return g.askCopy(o, func(w api.World) (string, api.Errno) { return view.Show(g.session, w) })
}

func (g *game) score(o operands) string {
	return g.askCopy(o, func(w api.World) (string, api.Errno) { return view.Table(w.Scores) })
}

// askCopy lets a copy be told, if there is one. What a peer has run is a world of the session: it is not refused.
func (g *game) askCopy(o operands, tell func(api.World) (string, api.Errno)) string {
	return g.ask(o, func(p *peer.Peer) string {
		w, errno := p.World(o.rung)
		if errno != api.OK {
			return result(errno)
		}
		text, _ := tell(w)
		return strings.TrimSuffix(text, lineFeed)
	})
}
