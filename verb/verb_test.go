package verb_test

import (
	"math"
	"slices"
	"testing"

	"echelon/api"
	"echelon/verb"
)

// meant is the chapter's table of verbs.
var meant = []struct {
	number   int
	name     string
	operands []api.Operand
	orders   int
}{
	{1, "steer", []api.Operand{{Name: "x", Least: -8, Most: 8}, {Name: "y", Least: -8, Most: 8}}, 289},
	{2, "halt", nil, 1},
	{3, "aim", []api.Operand{{Name: "to", Least: 0, Most: 15}}, 16},
	{4, "fire", []api.Operand{{Name: "power", Least: 1, Most: 3}}, 3},
	{5, "shield", []api.Operand{{Name: "on", Least: 0, Most: 1}}, 2},
	{6, "dash", []api.Operand{{Name: "to", Least: 0, Most: 15}}, 16},
	{7, "say", []api.Operand{{Name: "what", Least: 0, Most: 255}}, 256},
}

// noVerbs are numbers of no verb.
var noVerbs = []int{0, 8, 9, -1, -2, -7, -8, 10, 70, 255, 256, 257, 1<<8 + 1, 1<<16 + 1, 1 << 32, 1<<32 + 1, 1<<32 + 7, 1<<62 + 1, math.MaxInt32, math.MinInt32, math.MaxInt, math.MinInt, math.MaxInt - 1, math.MinInt + 1}

// edges are numbers around all that an operand may be.
var edges = []int{0, 1, -1, 2, 3, 4, -7, -8, -9, 7, 8, 9, 14, 15, 16, 17, -15, -16, 254, 255, 256, -255, -256, 257, 1 << 32, 1<<32 + 1, 1<<62 + 1, -1 << 32, math.MaxInt, math.MinInt, math.MaxInt - 1, math.MinInt + 1}

func TestP7_1Count(t *testing.T) {
	if n := verb.Count(); n != 7 || n != len(meant) {
		t.Errorf("Count: %d", n)
	}
}

func TestP7_1Name(t *testing.T) {
	for _, v := range meant {
		if s := verb.Name(v.number); s != v.name {
			t.Errorf("Name(%d): %q", v.number, s)
		}
	}
	for _, n := range noVerbs {
		if s := verb.Name(n); s != "" {
			t.Errorf("Name(%d): %q", n, s)
		}
	}
}

func TestP7_1Operands(t *testing.T) {
	for _, v := range meant {
		if l := verb.Operands(v.number); !slices.Equal(l, v.operands) {
			t.Errorf("Operands(%d): %v", v.number, l)
		}
	}
	for _, n := range noVerbs {
		if l := verb.Operands(n); len(l) != 0 {
			t.Errorf("Operands(%d): %v", n, l)
		}
	}
}

func TestP7_1OperandsAreNew(t *testing.T) {
	for _, v := range meant {
		l := verb.Operands(v.number)
		l = l[:cap(l)]
		for i := range l {
			l[i] = api.Operand{Name: "spoilt", Least: 100, Most: 99}
		}
		if l := verb.Operands(v.number); !slices.Equal(l, v.operands) {
			t.Errorf("Operands(%d) behind a change: %v", v.number, l)
		}
		if e := verb.Check(api.Order{Verb: v.number, A: 1}); v.number != 2 && e != api.OK {
			t.Errorf("Check(%d) behind a change: %d", v.number, e)
		}
	}
}

func TestP7_1Constants(t *testing.T) {
	for name, number := range map[string]int{"steer": api.Steer, "halt": api.Halt, "aim": api.Aim, "fire": api.Fire, "shield": api.Shield, "dash": api.Dash, "say": api.Say} {
		if s := verb.Name(number); s != name {
			t.Errorf("Name of %s: %q", name, s)
		}
	}
}

// meantCheck asks an order's operands one by one.
func meantCheck(o api.Order) api.Errno {
	for _, v := range meant {
		if v.number != o.Verb {
			continue
		}
		for i, n := range []int{o.A, o.B, o.C} {
			if i < len(v.operands) && (n < v.operands[i].Least || n > v.operands[i].Most) {
				return api.ErrVerbOperand
			}
			if i >= len(v.operands) && n != 0 {
				return api.ErrVerbOperand
			}
		}
		return api.OK
	}
	return api.ErrVerbNone
}

func TestP7_2Check(t *testing.T) {
	for _, c := range []struct {
		o    api.Order
		want api.Errno
	}{
		{api.Order{Verb: api.Steer, A: -8, B: 8}, api.OK}, {api.Order{Verb: api.Steer, A: 8, B: -8}, api.OK}, {api.Order{Verb: api.Steer}, api.OK},
		{api.Order{Verb: api.Steer, A: 9}, api.ErrVerbOperand}, {api.Order{Verb: api.Steer, A: -9}, api.ErrVerbOperand}, {api.Order{Verb: api.Steer, B: 9}, api.ErrVerbOperand}, {api.Order{Verb: api.Steer, B: -9}, api.ErrVerbOperand}, {api.Order{Verb: api.Steer, C: 1}, api.ErrVerbOperand}, {api.Order{Verb: api.Steer, C: -1}, api.ErrVerbOperand},
		{api.Order{Verb: api.Halt}, api.OK}, {api.Order{Verb: api.Halt, A: 1}, api.ErrVerbOperand}, {api.Order{Verb: api.Halt, A: -1}, api.ErrVerbOperand}, {api.Order{Verb: api.Halt, B: 1}, api.ErrVerbOperand}, {api.Order{Verb: api.Halt, C: 1}, api.ErrVerbOperand},
		{api.Order{Verb: api.Aim}, api.OK}, {api.Order{Verb: api.Aim, A: 15}, api.OK}, {api.Order{Verb: api.Aim, A: 16}, api.ErrVerbOperand}, {api.Order{Verb: api.Aim, A: -1}, api.ErrVerbOperand}, {api.Order{Verb: api.Aim, B: 1}, api.ErrVerbOperand}, {api.Order{Verb: api.Aim, C: -1}, api.ErrVerbOperand},
		{api.Order{Verb: api.Fire, A: 1}, api.OK}, {api.Order{Verb: api.Fire, A: 3}, api.OK}, {api.Order{Verb: api.Fire}, api.ErrVerbOperand}, {api.Order{Verb: api.Fire, A: 4}, api.ErrVerbOperand},
		{api.Order{Verb: api.Shield}, api.OK}, {api.Order{Verb: api.Shield, A: 1}, api.OK}, {api.Order{Verb: api.Shield, A: 2}, api.ErrVerbOperand}, {api.Order{Verb: api.Shield, A: -1}, api.ErrVerbOperand},
		{api.Order{Verb: api.Dash}, api.OK}, {api.Order{Verb: api.Dash, A: 15}, api.OK}, {api.Order{Verb: api.Dash, A: 16}, api.ErrVerbOperand}, {api.Order{Verb: api.Dash, A: -1}, api.ErrVerbOperand},
		{api.Order{Verb: api.Say}, api.OK}, {api.Order{Verb: api.Say, A: 255}, api.OK}, {api.Order{Verb: api.Say, A: 256}, api.ErrVerbOperand}, {api.Order{Verb: api.Say, A: -1}, api.ErrVerbOperand},
		{api.Order{}, api.ErrVerbNone}, {api.Order{Verb: 8}, api.ErrVerbNone}, {api.Order{Verb: -1}, api.ErrVerbNone}, {api.Order{A: 300}, api.ErrVerbNone}, {api.Order{Verb: 8, A: 1, B: 1, C: 1}, api.ErrVerbNone},
		{api.Order{Verb: math.MinInt, A: math.MinInt}, api.ErrVerbNone}, {api.Order{Verb: math.MaxInt, C: math.MaxInt}, api.ErrVerbNone},
	} {
		if e := verb.Check(c.o); e != c.want {
			t.Errorf("Check(%v): %d, not %d", c.o, e, c.want)
		}
	}
}

// edgeOrders are orders of all verbs, and of some numbers of none, with operands around the edges.
func edgeOrders(see func(api.Order)) {
	for _, number := range append([]int{1, 2, 3, 4, 5, 6, 7}, noVerbs...) {
		for _, a := range edges {
			for _, b := range edges {
				for _, c := range []int{0, 1, -1, 8, math.MaxInt, math.MinInt} {
					see(api.Order{Verb: number, A: a, B: b, C: c})
				}
			}
		}
	}
}

func TestP7_2CheckAtEdges(t *testing.T) {
	edgeOrders(func(o api.Order) {
		if e := verb.Check(o); e != meantCheck(o) {
			t.Errorf("Check(%v): %d, not %d", o, e, meantCheck(o))
		}
	})
}
