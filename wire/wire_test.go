package wire_test

import (
	"fmt"
	"math"
	"math/rand"
	"reflect"
	"slices"
	"testing"

	"echelon/api"
	"echelon/wire"
)

func wantCheck(t *testing.T, name string, d api.Datagram, may bool) {
	t.Helper()
	want := api.Errno(162)
	if may {
		want = 0
	}
	if e := wire.Check(d); e != want {
		t.Errorf("%s: Check(%+v): %d, not %d", name, d, e, want)
	}
}

func order(verb int, operands ...int) api.Order {
	n := append(operands, 0, 0, 0)
	return api.Order{Verb: verb, A: n[0], B: n[1], C: n[2]}
}

// anyOf is an order with an operand that every verb takes that takes one.
func anyOf(verb int) api.Order {
	if verb == 2 {
		return order(verb)
	}
	return order(verb, 1)
}

// ack is one of the chapter's examples, turn the other one.
func ack() api.Datagram {
	return api.Datagram{Kind: 2, Session: 258, From: 1, To: 0, Ack: 5}
}

func turn() api.Datagram {
	return turnOf(3, 1, api.Command{Frame: 5, Peer: 0, Seq: 1, Order: order(1, -8, 1)})
}

// turnOf is a Turn from 0 to 1 of session 0.
func turnOf(mark int64, first int, l ...api.Command) api.Datagram {
	return api.Datagram{Kind: 1, From: 0, To: 1, Mark: mark, First: first, Commands: l}
}

// orders are orders of every verb, with operands at their ends.
func orders() []api.Order {
	return []api.Order{
		order(1, -8, -8), order(1, 8, 8), order(1, 0, 0), order(1, -1, 8), order(2), order(3, 0), order(3, 15), order(4, 1), order(4, 3),
		order(5, 0), order(5, 1), order(6, 0), order(6, 15), order(7, 0), order(7, 63), order(7, 64), order(7, 255),
	}
}

// many is a Turn with so many commands, from a first number on.
func many(n, first int) api.Datagram {
	l := orders()
	d := turnOf(100, first)
	for i := range n {
		d.Commands = append(d.Commands, api.Command{Frame: int64(1 + i), Peer: 0, Seq: first + i, Order: l[i%len(l)]})
	}
	return d
}

// busy is a Turn with a command of every verb, ahead of its mark and behind it, and with no number that is written in one byte alone.
func busy() api.Datagram {
	d := many(len(orders()), 1000)
	d.Session, d.From, d.To, d.Mark, d.Ack = 0x8877665544332211, 5, 4, 70000, 300000
	for i := range d.Commands {
		d.Commands[i].Peer = 5
		d.Commands[i].Frame = 70000 + int64(1-2*(i%2))*(100+int64(i)*1000)
	}
	return d
}

// greatest is a datagram with as many bytes as there may be.
func greatest() api.Datagram {
	d := turnOf(mostNo, mostNo-mostCommands+1)
	d.Ack = mostNo
	for i := range mostCommands {
		d.Commands = append(d.Commands, api.Command{Frame: 1, Seq: d.First + i, Order: order(7, 255)})
	}
	return d
}

// edge is a datagram at an edge, and whether it may be.
type edge struct {
	name string
	d    api.Datagram
	may  bool
}

// extremes are numbers from one below the least to one above the greatest that may be, and some far off.
func extremes(least, most int) []int {
	return []int{math.MinInt, -mostNo, math.MinInt32, least - 1, least, least + 1, most - 1, most, most + 1, most + 256, most + 1<<32, 1 << 62, math.MaxInt}
}

// field is a number of a datagram, and from where to where it may be.
type field struct {
	name        string
	of          api.Datagram
	least, most int
	set         func(d *api.Datagram, n int)
}

func fields() []field {
	one := turn()
	one.Commands[0].Order = order(2)
	return []field{
		{"Kind", turnOf(0, 1), 1, 1, func(d *api.Datagram, n int) { d.Kind = n }},
		{"Kind of an Ack", ack(), 2, 2, func(d *api.Datagram, n int) { d.Kind = n }},
		{"From of an Ack", ack(), 1, 5, func(d *api.Datagram, n int) { d.From = n }},
		{"To of an Ack", api.Datagram{Kind: 2, From: 5}, 0, 4, func(d *api.Datagram, n int) { d.To = n }},
		{"From", api.Datagram{Kind: 1, To: 5, First: 1}, 0, 4, func(d *api.Datagram, n int) { d.From = n }},
		{"To", turnOf(0, 1), 1, 5, func(d *api.Datagram, n int) { d.To = n }},
		{"Ack of an Ack", ack(), 0, mostNo, func(d *api.Datagram, n int) { d.Ack = n }},
		{"Ack", turn(), 0, mostNo, func(d *api.Datagram, n int) { d.Ack = n }},
		{"Mark of an Ack", ack(), 0, 0, func(d *api.Datagram, n int) { d.Mark = int64(n) }},
		{"First of an Ack", ack(), 0, 0, func(d *api.Datagram, n int) { d.First = n }},
		{"Mark", turn(), 0, mostNo, func(d *api.Datagram, n int) { d.Mark = int64(n) }},
		{"Mark without commands", turnOf(0, 1), 0, mostNo, func(d *api.Datagram, n int) { d.Mark = int64(n) }},
		{"First", turnOf(0, 1), 1, mostNo, func(d *api.Datagram, n int) { d.First = n }},
		{"First and Seq", turn(), 1, mostNo, func(d *api.Datagram, n int) { d.First, d.Commands[0].Seq = n, n }},
		{"First and Seq of two", many(2, 1), 1, mostNo - 1, func(d *api.Datagram, n int) { d.First, d.Commands[0].Seq, d.Commands[1].Seq = n, n, n+1 }},
		{"Seq", turn(), 1, 1, func(d *api.Datagram, n int) { d.Commands[0].Seq = n }},
		{"Seq of the second", many(2, 7), 8, 8, func(d *api.Datagram, n int) { d.Commands[1].Seq = n }},
		{"Peer", turn(), 0, 0, func(d *api.Datagram, n int) { d.Commands[0].Peer = n }},
		{"Frame", turn(), 1, mostNo, func(d *api.Datagram, n int) { d.Commands[0].Frame = int64(n) }},
		{"Verb", one, 1, 7, func(d *api.Datagram, n int) { d.Commands[0].Order = anyOf(n) }},
		{"A of Steer", turn(), -8, 8, func(d *api.Datagram, n int) { d.Commands[0].Order.A = n }},
		{"B of Steer", turn(), -8, 8, func(d *api.Datagram, n int) { d.Commands[0].Order.B = n }},
		{"C of Steer", turn(), 0, 0, func(d *api.Datagram, n int) { d.Commands[0].Order.C = n }},
		{"A of Halt", one, 0, 0, func(d *api.Datagram, n int) { d.Commands[0].Order.A = n }},
		{"B of Halt", one, 0, 0, func(d *api.Datagram, n int) { d.Commands[0].Order.B = n }},
		{"A of Aim", one, 0, 15, func(d *api.Datagram, n int) { d.Commands[0].Order = order(3, n) }},
		{"B of Aim", one, 0, 0, func(d *api.Datagram, n int) { d.Commands[0].Order = order(3, 1, n) }},
		{"A of Fire", one, 1, 3, func(d *api.Datagram, n int) { d.Commands[0].Order = order(4, n) }},
		{"B of Fire", one, 0, 0, func(d *api.Datagram, n int) { d.Commands[0].Order = order(4, 1, n) }},
		{"A of Shield", one, 0, 1, func(d *api.Datagram, n int) { d.Commands[0].Order = order(5, n) }},
		{"C of Shield", one, 0, 0, func(d *api.Datagram, n int) { d.Commands[0].Order = order(5, 1, 0, n) }},
		{"A of Dash", one, 0, 15, func(d *api.Datagram, n int) { d.Commands[0].Order = order(6, n) }},
		{"B of Dash", one, 0, 0, func(d *api.Datagram, n int) { d.Commands[0].Order = order(6, 1, n) }},
		{"A of Say", one, 0, 255, func(d *api.Datagram, n int) { d.Commands[0].Order = order(7, n) }},
		{"B of Say", one, 0, 0, func(d *api.Datagram, n int) { d.Commands[0].Order = order(7, 1, n) }},
	}
}

// apart is a datagram with a list of its own.
func apart(d api.Datagram) api.Datagram {
	d.Commands = slices.Clone(d.Commands)
	return d
}

// edges are datagrams of which one thing is at an edge, and just beyond it.
func edges() []edge {
	var l []edge
	for _, f := range fields() {
		for _, n := range extremes(f.least, f.most) {
			d := apart(f.of)
			f.set(&d, n)
			l = append(l, edge{fmt.Sprintf("%s %d", f.name, n), d, n >= f.least && n <= f.most})
		}
	}
	return append(l, listEdges()...)
}

// listEdges are those of how many commands there are, and of what they are together.
func listEdges() []edge {
	with := func(d api.Datagram, l ...api.Command) api.Datagram {
		d.Commands = l
		return d
	}
	one := api.Command{Frame: 1, Peer: 1, Seq: 1, Order: order(2)}
	none := api.Datagram{}
	firstless := ack()
	firstless.First = 1
	return []edge{
		{"nothing", none, false},
		{"an Ack", ack(), true},
		{"an Ack with no commands in a list", with(ack(), []api.Command{}...), true},
		{"an Ack with a command", with(ack(), one), false},
		{"an Ack with a command of no kind", with(ack(), api.Command{}), false},
		{"an Ack with a First and its command", with(firstless, one), false},
		{"a Turn", turn(), true},
		{"a Turn with no commands in a list", with(turn(), []api.Command{}...), true},
		{"a Turn with a command of no kind", with(turn(), api.Command{}), false},
		{"335", many(335, 1), true},
		{"336", many(336, 1), true},
		{"337", many(337, 1), false},
		{"1000", many(1000, 1), false},
		{"336 up to the greatest number", many(336, mostNo-335), true},
		{"336 and one above", many(336, mostNo-334), false},
		{"337 up to the greatest number", many(337, mostNo-336), false},
		{"two from the greatest number on", many(2, mostNo), false},
		{"one of the greatest number", many(1, mostNo), true},
		{"numbers that go round", many(3, math.MaxInt-1), false},
		{"numbers that go round to 1", many(3, 0), false},
		{"below its mark", turnOf(3, 1, api.Command{Frame: 2, Seq: 1, Order: order(2)}), true},
		{"at its mark", turnOf(3, 1, api.Command{Frame: 3, Seq: 1, Order: order(2)}), true},
		{"far below its mark", turnOf(mostNo, 1, api.Command{Frame: 1, Seq: 1, Order: order(2)}), true},
		{"far above its mark", turnOf(0, 1, api.Command{Frame: mostNo, Seq: 1, Order: order(2)}), true},
		{"a Turn of every verb", busy(), true},
		{"the greatest one", greatest(), true},
	}
}

func TestP16_1Examples(t *testing.T) {
	wantCheck(t, "an Ack", ack(), true)
	wantCheck(t, "a Turn", turn(), true)
	d := turn()
	d.Commands[0].Seq = 2
	wantCheck(t, "Seq 2", d, false)
}

func TestP16_1Edges(t *testing.T) {
	for _, x := range edges() {
		wantCheck(t, x.name, x.d, x.may)
		if meantMay(x.d) != x.may {
			t.Errorf("%s: the test itself has it otherwise", x.name)
		}
	}
}

func TestP16_1Seats(t *testing.T) {
	for from := -2; from < 9; from++ {
		for to := -2; to < 9; to++ {
			may := from >= 0 && from < 6 && to >= 0 && to < 6 && from != to
			name := fmt.Sprintf("from %d to %d", from, to)
			wantCheck(t, name, api.Datagram{Kind: 2, From: from, To: to}, may)
			c := api.Command{Frame: 1, Peer: from, Seq: 1, Order: order(2)}
			wantCheck(t, name+", a Turn", api.Datagram{Kind: 1, From: from, To: to, First: 1}, may)
			wantCheck(t, name+", a command", api.Datagram{Kind: 1, From: from, To: to, First: 1, Commands: []api.Command{c}}, may)
			c.Peer = to
			wantCheck(t, name+", a command of the other one", api.Datagram{Kind: 1, From: from, To: to, First: 1, Commands: []api.Command{c}}, false)
		}
	}
}

func TestP16_1Sessions(t *testing.T) {
	for _, n := range []uint64{0, 1, 255, 256, 1 << 63, math.MaxUint64} {
		a, b := ack(), turn()
		a.Session, b.Session = n, n
		wantCheck(t, "an Ack", a, true)
		wantCheck(t, "a Turn", b, true)
	}
}

// TestP16_1Orders: all orders around those that may be.
func TestP16_1Orders(t *testing.T) {
	count := 0
	for verb := -1; verb <= 9; verb++ {
		for a := -10; a <= 257; a++ {
			for b := -9; b <= 9; b++ {
				for c := -1; c <= 1; c++ {
					d := turn()
					d.Commands[0].Order = api.Order{Verb: verb, A: a, B: b, C: c}
					may := meantOrder(d.Commands[0].Order)
					if may {
						count++
					}
					if (wire.Check(d) == 0) != may {
						t.Fatalf("%+v: %d", d, wire.Check(d))
					}
				}
			}
		}
	}
	if count != 583 {
		t.Errorf("%d orders", count)
	}
}

// TestP16_1EachCommand: all commands are asked, wherever they stand.
func TestP16_1EachCommand(t *testing.T) {
	spoils := map[string]func(c *api.Command){
		"Frame 0":        func(c *api.Command) { c.Frame = 0 },
		"Frame above":    func(c *api.Command) { c.Frame = mostNo + 1 },
		"Peer":           func(c *api.Command) { c.Peer++ },
		"Seq more":       func(c *api.Command) { c.Seq++ },
		"Seq less":       func(c *api.Command) { c.Seq-- },
		"Seq 0":          func(c *api.Command) { c.Seq = 0 },
		"no verb":        func(c *api.Command) { c.Order.Verb = 0 },
		"verb 8":         func(c *api.Command) { c.Order.Verb = 8 },
		"operand far":    func(c *api.Command) { c.Order.A = 256 },
		"operand beside": func(c *api.Command) { c.Order.C = 1 },
	}
	for _, n := range []int{1, 2, 3, 50, 336} {
		for _, place := range []int{0, 1, n / 2, n - 2, n - 1} {
			if place < 0 || place >= n {
				continue
			}
			for name, spoil := range spoils {
				d := many(n, 9)
				spoil(&d.Commands[place])
				wantCheck(t, fmt.Sprintf("%s at %d of %d", name, place, n), d, false)
			}
		}
	}
	d := many(3, 9)
	d.Commands[0], d.Commands[1] = d.Commands[1], d.Commands[0]
	wantCheck(t, "another order", d, false)
	d = many(3, 9)
	wantCheck(t, "without the first", turnOf(100, 9, d.Commands[1:]...), false)
	wantCheck(t, "without the first, from the second on", turnOf(100, 10, d.Commands[1:]...), true)
	wantCheck(t, "without the second", turnOf(100, 9, d.Commands[0], d.Commands[2]), false)
}

// numbersOf are all numbers with a sign of a datagram and of its commands.
func numbersOf(v reflect.Value) []reflect.Value {
	var l []reflect.Value
	switch v.Kind() {
	case reflect.Struct:
		for i := range v.NumField() {
			l = append(l, numbersOf(v.Field(i))...)
		}
	case reflect.Slice:
		for i := range v.Len() {
			l = append(l, numbersOf(v.Index(i))...)
		}
	case reflect.Int, reflect.Int64:
		l = append(l, v)
	}
	return l
}

// someOdd changes one number of a datagram, or how many commands it has; it often may not be then.
func someOdd(r *rand.Rand, d api.Datagram) api.Datagram {
	d = apart(d)
	switch n := len(d.Commands); {
	case n > 0 && r.Intn(10) == 0:
		d.Commands = slices.Delete(d.Commands, r.Intn(n), n)
	case n > 0 && r.Intn(10) == 0:
		d.Commands = append(d.Commands, d.Commands[r.Intn(n)])
	default:
		l := numbersOf(reflect.ValueOf(&d).Elem())
		x := l[r.Intn(len(l))]
		if r.Intn(3) == 0 {
			x = l[r.Intn(6)]
		}
		to := []int64{x.Int() + 1, x.Int() - 1, 0, 1, 2, -1, mostNo, mostNo + 1, math.MaxInt64, math.MinInt64, x.Int() + int64(r.Intn(9)), 1 << 32, x.Int() + 256}
		x.SetInt(to[r.Intn(len(to))])
	}
	return d
}

// TestP16_1Some: drawn datagrams, with one or two odd things or none, against the chapter's words.
func TestP16_1Some(t *testing.T) {
	r := rand.New(rand.NewSource(161))
	told := map[bool]int{}
	for range 12000 {
		d := someDatagram(r)
		wantCheck(t, "drawn", d, true)
		for range 1 + r.Intn(2) {
			d = someOdd(r, d)
		}
		may := meantMay(d)
		wantCheck(t, "odd", d, may)
		told[may]++
		if t.Failed() {
			return
		}
	}
	if told[true] < 1200 || told[false] < 1200 {
		t.Errorf("may be: %v", told)
	}
}

// roomy is a list with room behind its end, and things in there.
func roomy[T any](l []T, behind T) []T {
	n := len(l)
	l = append(slices.Clone(l), behind, behind, behind)
	return l[:n]
}

// spare is a list with what stands in the room behind its end.
func spare[T any](l []T) []T { return slices.Clone(l[:cap(l)]) }

// wipe writes over a list and the room behind its end.
func wipe[T any](l []T) { clear(l[:cap(l)]) }

// beside is a command that stands in the room behind a list's end.
func beside() api.Command { return api.Command{Frame: 77, Peer: 7, Seq: 777, Order: order(7, 77)} }

// TestP16_1StayAsTheyWere: what is handed in is not changed, the room behind its end neither.
func TestP16_1StayAsTheyWere(t *testing.T) {
	r := rand.New(rand.NewSource(162))
	for range 500 {
		d := someDatagram(r)
		if r.Intn(2) == 0 {
			d = someOdd(r, d)
		}
		d.Commands = roomy(d.Commands, beside())
		before := spare(d.Commands)
		first := wire.Check(d)
		if again := wire.Check(d); again != first || !slices.Equal(spare(d.Commands), before) {
			t.Fatalf("%+v has become %+v: %d %d", before, spare(d.Commands), first, again)
		}
	}
}
