package shell_test

import (
	"fmt"
	"math/big"
	"regexp"
	"strings"

	"echelon/api"
	"echelon/arena"
	"echelon/peer"
	"echelon/verb"
	"echelon/view"
	"echelon/world"
)

// The chapter read a second time, by other means: lines are told by regular expressions, and there is no mesh, but peers and a list of all parcels that ever were.

// forms are those of the table's lines: N a number, S a seed, O an order, L lags.
var forms = map[string]*regexp.Regexp{}

func init() {
	number := `(0|-?[1-9][0-9]*)`
	for _, f := range []string{
		"game N S L", "game N S x N L", "order N N O",
		"tick N", "deliver N", "drop N", "double N", "quiet N", "flight", "table", "frames N", "held N",
		"missed N N", "sum N N", "links N", "count N", "put N", "show N N", "score N N",
	} {
		f = strings.NewReplacer("N", number, "S", `(0|[1-9][0-9]*)`, "O", `(?s:(.*))`, "L", "("+number+"(?: "+number+")*)").Replace(f)
		forms[f] = regexp.MustCompile(`\A` + f + `\z`)
	}
}

// matched is what stands in a line where its form has something else than words; nil, if it is none.
func matched(line string) (string, []string) {
	for _, re := range forms {
		if m := re.FindStringSubmatch(line); m != nil {
			return strings.Fields(line)[0], m[1:]
		}
	}
	return "", nil
}

// wide tells whether a number leaves 64 bits.
func wide(digits string) bool {
	n, _ := new(big.Int).SetString(digits, 10)
	return !n.IsInt64()
}

func number(digits string) int {
	n, _ := new(big.Int).SetString(digits, 10)
	return int(n.Int64())
}

// theirs is a game, as it is meant.
type theirs struct {
	session api.Config
	peers   []*peer.Peer
	ever    []api.Parcel // number 1 is at place 0
	gone    map[int]bool // their numbers
	laid    []api.Command
}

func begun(c api.Config) *theirs {
	g := &theirs{session: c, gone: map[int]bool{}}
	for seat := range c.Peers {
		p, _ := peer.New(c, seat)
		g.peers = append(g.peers, p)
	}
	return g
}

// sessionOf is the one of a game's line, if it may be.
func sessionOf(line string) (api.Config, bool) {
	words := strings.Split(line, " ")
	a, e := arena.Standard(number(words[1]))
	c := api.Config{Peers: 2, Seed: uint64(number(words[2])), Arena: a}
	words = words[3:]
	if words[0] == "x" {
		c.Peers = number(words[1])
		words = words[2:]
	}
	for _, w := range words {
		c.Lags = append(c.Lags, number(w))
	}
	return c, e == 0 && world.CheckConfig(c) == 0
}

// meant is what a text is to tell: of a line that may not be the number.
func meant(text string) (string, api.Errno, int) {
	lines := regexp.MustCompile("\n").Split(text, -1)
	if len(text) > 65536 || len(lines) > 2000 {
		return "", 2, 0
	}
	var g *theirs
	var all strings.Builder
	for i, line := range lines {
		if regexp.MustCompile(`\A(#|\z)`).MatchString(line) {
			continue
		}
		told, is := "", false
		if g, told, is = g.line(line); !is {
			return "", 250, i + 1
		}
		all.WriteString(told + "\n")
	}
	return all.String(), 0, 0
}

// line is what one tells, and the game behind it; false, if it may not be.
func (g *theirs) line(line string) (*theirs, string, bool) {
	word, of := matched(line)
	if of == nil && word == "" {
		return nil, "", false
	}
	for _, digits := range regexp.MustCompile(`-?[0-9]+`).FindAllString(line, -1) {
		if wide(digits) {
			return nil, "", false
		}
	}
	if word == "game" {
		c, is := sessionOf(line)
		if !is {
			return nil, "", false
		}
		return begun(c), "ok", true
	}
	if g == nil {
		return nil, "", false
	}
	if word == "order" {
		o, e := verb.Parse(of[2])
		if e != 0 {
			return nil, "", false
		}
		return g, say(g.order(number(of[0]), number(of[1]), o)), true
	}
	var n [2]int
	for i, digits := range of {
		n[i] = number(digits)
	}
	if told, is := g.call(word, n[0]); is {
		return g, told, true
	}
	return g, g.answer(word, n[0], n[1]), true
}

func say(e api.Errno) string {
	if e == 0 {
		return "ok"
	}
	return fmt.Sprintf("error %d", e)
}

func (g *theirs) is(seat int) bool { return seat >= 0 && seat < len(g.peers) }

func (g *theirs) send(l []api.Parcel) {
	for _, p := range l {
		p.No = len(g.ever) + 1
		g.ever = append(g.ever, p)
	}
}

func (g *theirs) order(seat, frame int, o api.Order) api.Errno {
	if !g.is(seat) {
		return 240
	}
	e := g.peers[seat].Command(o, int64(frame))
	if e == 0 {
		seq := 1
		for _, c := range g.laid {
			if c.Peer == seat {
				seq++
			}
		}
		g.laid = append(g.laid, api.Command{Frame: int64(frame), Peer: seat, Seq: seq, Order: o})
	}
	return e
}

func (g *theirs) tick(seat int) api.Errno {
	if !g.is(seat) {
		return 240
	}
	out, e := g.peers[seat].Tick()
	g.send(out)
	return e
}

// take is a parcel that is on its way.
func (g *theirs) take(no int, keep bool) (api.Parcel, api.Errno) {
	if no < 1 || no > len(g.ever) || g.gone[no] {
		return api.Parcel{}, 170
	}
	g.gone[no] = !keep
	return g.ever[no-1], 0
}

func (g *theirs) deliver(no int) api.Errno {
	p, e := g.take(no, false)
	if e != 0 {
		return e
	}
	out, e := g.peers[p.To].Receive(p.Bytes)
	g.send(out)
	return e
}

func (g *theirs) quiet(rounds int) api.Errno {
	if rounds < 0 || rounds > 200 {
		return 1
	}
	for range rounds {
		for seat := range g.peers {
			g.tick(seat)
		}
		for no := 1; no <= len(g.ever); no++ {
			g.deliver(no)
		}
	}
	return 0
}

// call is what a line tells that tells a result; false, if it is another one.
func (g *theirs) call(word string, n int) (string, bool) {
	switch word {
	case "tick":
		return strings.Replace(say(g.tick(n)), "error 223", "stall", 1), true
	case "deliver":
		return say(g.deliver(n)), true
	case "drop":
		_, e := g.take(n, false)
		return say(e), true
	case "double":
		p, e := g.take(n, true)
		if e == 0 {
			g.send([]api.Parcel{p})
		}
		return say(e), true
	case "quiet":
		return say(g.quiet(n)), true
	}
	return "", false
}

// answer is what a line tells that asks how it stands.
func (g *theirs) answer(word string, n, m int) string {
	var l []string
	switch {
	case word == "flight":
		for _, p := range g.ever {
			if !g.gone[p.No] {
				l = append(l, fmt.Sprintf("%d:%d>%d", p.No, p.From, p.To))
			}
		}
		return listed(l)
	case word == "table":
		return commandsTold(g.laid)
	case !g.is(n):
		return "error 240"
	}
	p := g.peers[n]
	switch word {
	case "frames":
		return strings.Trim(fmt.Sprint(p.Frames()), "[]")
	case "held":
		return commandsTold(p.Held())
	case "missed":
		return commandsTold(p.Missed(m))
	case "sum":
		d, is := p.Digest(int64(m))
		if !is {
			return "-"
		}
		return fmt.Sprintf("%016x", d)
	case "links":
		for seat, s := range p.Links() {
			if seat != n {
				l = append(l, fmt.Sprintf("%d:%d/%d/%d/%d", seat, s.Own, s.Acked, s.Next, s.Mark))
			}
		}
	case "count":
		return view.Print(p.Counters())
	case "put":
		corrections, _ := view.Correct(p.Last().Wrong, p.Last().Right)
		for _, c := range corrections {
			l = append(l, fmt.Sprintf("%c %d,%d %d,%d %d %d", 'A'+c.Peer, c.Before.X, c.Before.Y, c.After.X, c.After.Y, c.Health, c.Points))
		}
	default:
		return g.copyTold(word, p, m)
	}
	return listed(l)
}

func (g *theirs) copyTold(word string, p *peer.Peer, rung int) string {
	w, e := p.World(rung)
	if e != 0 {
		return "error 1"
	}
	text, e := view.Show(g.session, w)
	if word == "score" {
		text, e = view.Table(w.Scores)
	}
	if e != 0 || !strings.HasSuffix(text, "\n") {
		return fmt.Sprintf("not shown: %d", e)
	}
	return text[:len(text)-1]
}

func commandsTold(l []api.Command) string {
	var out []string
	for _, c := range l {
		order, _ := verb.Print(c.Order)
		out = append(out, fmt.Sprintf("%d/%d/%d %s", c.Frame, c.Peer, c.Seq, order))
	}
	return listed(out)
}

func listed(l []string) string {
	if l == nil {
		return "-"
	}
	return strings.Join(l, "; ")
}
