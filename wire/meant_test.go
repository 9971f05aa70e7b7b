package wire_test

import (
	"encoding/binary"
	"math/rand"
	"slices"

	"echelon/api"
	"echelon/digest"
)

// The greatest frame and number, how many commands there may be, and the greatest length.
const (
	mostNo       = 1 << 40
	mostCommands = 336
	mostBytes    = 16384
)

// meantTakes is how many operands a verb takes, and whether there is one of that number.
func meantTakes(verb int) (int, bool) {
	takes := []int{1: 2, 2: 0, 3: 1, 4: 1, 5: 1, 6: 1, 7: 1}
	if verb < 1 || verb > 7 {
		return 0, false
	}
	return takes[verb], true
}

// meantOrder tells whether an order may be, by chapter 7's table.
func meantOrder(o api.Order) bool {
	in := func(n, least, most int) bool { return n >= least && n <= most }
	switch o.Verb {
	case 1:
		return in(o.A, -8, 8) && in(o.B, -8, 8) && o.C == 0
	case 2:
		return o.A == 0 && o.B == 0 && o.C == 0
	case 3, 6:
		return in(o.A, 0, 15) && o.B == 0 && o.C == 0
	case 4:
		return in(o.A, 1, 3) && o.B == 0 && o.C == 0
	case 5:
		return in(o.A, 0, 1) && o.B == 0 && o.C == 0
	case 7:
		return in(o.A, 0, 255) && o.B == 0 && o.C == 0
	}
	return false
}

// meantMay tells whether a datagram may be, by the chapter's words.
func meantMay(d api.Datagram) bool {
	if d.Kind != 1 && d.Kind != 2 || d.From < 0 || d.From > 5 || d.To < 0 || d.To > 5 || d.From == d.To || d.Ack < 0 || d.Ack > mostNo {
		return false
	}
	if d.Kind == 2 {
		return d.Mark == 0 && d.First == 0 && len(d.Commands) == 0
	}
	if d.Mark < 0 || d.Mark > mostNo || d.First < 1 || d.First > mostNo || len(d.Commands) > mostCommands {
		return false
	}
	return !slices.ContainsFunc(d.Commands, func(c api.Command) bool {
		return c.Peer != d.From || c.Seq > mostNo || c.Frame < 1 || c.Frame > mostNo || !meantOrder(c.Order)
	}) && risesFrom(d.First, d.Commands)
}

func risesFrom(first int, l []api.Command) bool {
	for _, c := range l {
		if c.Seq != first {
			return false
		}
		first++
	}
	return true
}

// written is what stands in bytes, whether it may be or not.
type written struct {
	sign, kind, from, to      byte
	session                   uint64
	mark, first, count, acked uint64
	commands                  []writtenCommand
}

type writtenCommand struct {
	behind   int64
	verb     byte
	operands []int64
}

// writtenAs is what is written of a datagram.
func writtenAs(d api.Datagram) written {
	x := written{
		sign: 0x65, kind: byte(d.Kind), from: byte(d.From), to: byte(d.To), session: d.Session,
		mark: uint64(d.Mark), first: uint64(d.First), count: uint64(len(d.Commands)), acked: uint64(d.Ack),
	}
	for _, c := range d.Commands {
		takes, _ := meantTakes(c.Order.Verb)
		operands := []int64{int64(c.Order.A), int64(c.Order.B), int64(c.Order.C)}[:takes]
		x.commands = append(x.commands, writtenCommand{c.Frame - d.Mark, byte(c.Order.Verb), operands})
	}
	return x
}

func unsigned(n uint64) []byte { return binary.AppendUvarint(nil, n) }
func signed(n int64) []byte    { return binary.AppendVarint(nil, n) }

// pieces are the bytes without the sum, a piece for each thing that is written, and the places of the pieces that are numbers.
func (x written) pieces() (l [][]byte, numbers []int) {
	number := func(b []byte) {
		numbers = append(numbers, len(l))
		l = append(l, b)
	}
	l = [][]byte{{x.sign}, {x.kind}, binary.LittleEndian.AppendUint64(nil, x.session), {x.from}, {x.to}}
	if x.kind == 1 {
		number(unsigned(x.mark))
		number(unsigned(x.first))
		number(unsigned(x.count))
		for _, c := range x.commands {
			number(signed(c.behind))
			l = append(l, []byte{c.verb})
			for _, n := range c.operands {
				number(signed(n))
			}
		}
	}
	number(unsigned(x.acked))
	return l, numbers
}

func (x written) body() []byte {
	l, _ := x.pieces()
	return slices.Concat(l...)
}

func meantBody(d api.Datagram) []byte  { return writtenAs(d).body() }
func meantBytes(d api.Datagram) []byte { return sealed(meantBody(d)) }

// sealed are bytes, and the sum of them behind.
func sealed(body []byte) []byte {
	return binary.LittleEndian.AppendUint64(slices.Clone(body), digest.Of(body))
}

// guess goes through bytes as if they were a datagram's; where they are none it goes on all the same.
type guess struct{ left []byte }

func (g *guess) take(size int) []byte {
	size = min(max(size, 0), len(g.left))
	b := g.left[:size]
	g.left = g.left[size:]
	return b
}

func (g *guess) byte() byte { return append(slices.Clone(g.take(1)), 0)[0] }

func (g *guess) full() uint64 {
	return binary.LittleEndian.Uint64(append(slices.Clone(g.take(8)), make([]byte, 8)...))
}

func (g *guess) unsigned() uint64 {
	n, size := binary.Uvarint(g.left)
	g.take(size)
	return n
}

func (g *guess) signed() int64 {
	n, size := binary.Varint(g.left)
	g.take(size)
	return n
}

// whole is what the bytes say, and whether they say it in just this form: they do, if it is written as they are.
func whole(body []byte) (written, bool) {
	g := &guess{body}
	x := written{sign: g.byte(), kind: g.byte(), session: g.full(), from: g.byte(), to: g.byte()}
	if x.kind == 1 {
		x.mark, x.first, x.count = g.unsigned(), g.unsigned(), g.unsigned()
		for range min(x.count, mostCommands+1) {
			c := writtenCommand{behind: g.signed(), verb: g.byte()}
			takes, _ := meantTakes(int(c.verb))
			for range takes {
				c.operands = append(c.operands, g.signed())
			}
			x.commands = append(x.commands, c)
		}
	}
	x.acked = g.unsigned()
	return x, slices.Equal(x.body(), body)
}

// beyond tells whether something is written that is beyond what the table may say.
func (x written) beyond() bool {
	if x.sign != 0x65 || x.kind != 1 && x.kind != 2 || x.mark > mostNo || x.first > mostNo || x.acked > mostNo || x.count > mostCommands {
		return true
	}
	return slices.ContainsFunc(x.commands, func(c writtenCommand) bool {
		_, is := meantTakes(int(c.verb))
		return !is || c.behind > mostNo || c.behind < -mostNo
	})
}

// says is the datagram that is written.
func (x written) says() api.Datagram {
	d := api.Datagram{Kind: int(x.kind), Session: x.session, From: int(x.from), To: int(x.to), Mark: int64(x.mark), First: int(x.first), Ack: int(x.acked)}
	for i, c := range x.commands {
		n := append(slices.Clone(c.operands), 0, 0, 0)
		o := api.Order{Verb: int(c.verb), A: int(n[0]), B: int(n[1]), C: int(n[2])}
		d.Commands = append(d.Commands, api.Command{Frame: d.Mark + c.behind, Peer: d.From, Seq: d.First + i, Order: o})
	}
	return d
}

// meantDecode is what Decode answers, by the chapter's words.
func meantDecode(b []byte) (api.Datagram, api.Errno) {
	if len(b) > mostBytes || len(b) < 8 {
		return api.Datagram{}, 160
	}
	body := b[:len(b)-8]
	if !slices.Equal(sealed(body), b) {
		return api.Datagram{}, 161
	}
	x, is := whole(body)
	if !is || x.beyond() {
		return api.Datagram{}, 160
	}
	if d := x.says(); meantMay(d) {
		return d, 0
	}
	return api.Datagram{}, 162
}

// same tells whether two datagrams are alike; nil and empty lists are.
func same(a, b api.Datagram) bool {
	l, m := a.Commands, b.Commands
	return a.Kind == b.Kind && a.Session == b.Session && a.From == b.From && a.To == b.To &&
		a.Mark == b.Mark && a.First == b.First && a.Ack == b.Ack && slices.Equal(l, m)
}

// someIn is a number of a range, often at its ends.
func someIn(r *rand.Rand, least, most int) int {
	switch r.Intn(5) {
	case 0:
		return least
	case 1:
		return most
	case 2:
		return min(most, least+r.Intn(200))
	}
	return least + r.Intn(most-least+1)
}

func someOrder(r *rand.Rand) api.Order {
	o := api.Order{Verb: 1 + r.Intn(7)}
	switch o.Verb {
	case 1:
		o.A, o.B = someIn(r, -8, 8), someIn(r, -8, 8)
	case 3, 6:
		o.A = someIn(r, 0, 15)
	case 4:
		o.A = someIn(r, 1, 3)
	case 5:
		o.A = someIn(r, 0, 1)
	case 7:
		o.A = someIn(r, 0, 255)
	}
	return o
}

// someFrame is a frame for a command, often near the mark.
func someFrame(r *rand.Rand, mark int64) int64 {
	if r.Intn(2) == 0 {
		return min(max(mark-40+int64(r.Intn(100)), 1), mostNo)
	}
	return int64(someIn(r, 1, mostNo))
}

// someDatagram is one that may be.
func someDatagram(r *rand.Rand) api.Datagram {
	seats := r.Perm(6)
	d := api.Datagram{Kind: 1 + r.Intn(2), Session: r.Uint64() >> r.Intn(64), From: seats[0], To: seats[1], Ack: someIn(r, 0, mostNo)}
	if d.Kind == 2 && r.Intn(4) > 0 {
		d.Kind = 1
	}
	if d.Kind == 2 {
		return d
	}
	n := []int{0, 1, 2, 5, 20, r.Intn(mostCommands + 1)}[r.Intn(6)]
	d.Mark, d.First = int64(someIn(r, 0, mostNo)), someIn(r, 1, mostNo-max(n, 1)+1)
	for i := range n {
		d.Commands = append(d.Commands, api.Command{Frame: someFrame(r, d.Mark), Peer: d.From, Seq: d.First + i, Order: someOrder(r)})
	}
	return d
}
