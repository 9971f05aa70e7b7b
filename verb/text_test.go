package verb_test

import (
	"fmt"
	"math/rand"
	"strings"
	"testing"

	"echelon/api"
	"echelon/verb"
)

// meantPrint writes an order that may be.
func meantPrint(o api.Order) string {
	v := meant[o.Verb-1]
	s := v.name
	for _, n := range []int{o.A, o.B, o.C}[:len(v.operands)] {
		s += fmt.Sprintf(" %d", n)
	}
	return s
}

// allOrders are the orders that may be, by the chapter's table.
func allOrders() []api.Order {
	var l []api.Order
	for _, v := range meant {
		last := []api.Order{{Verb: v.number}}
		for place, p := range v.operands {
			var next []api.Order
			for _, o := range last {
				for n := p.Least; n <= p.Most; n++ {
					if place == 0 {
						o.A = n
					} else {
						o.B = n
					}
					next = append(next, o)
				}
			}
			last = next
		}
		l = append(l, last...)
	}
	return l
}

// allTexts has for each text of an order that order.
func allTexts() map[string]api.Order {
	texts := map[string]api.Order{}
	for _, o := range allOrders() {
		texts[meantPrint(o)] = o
	}
	return texts
}

// short keeps what a test tells readable.
func short(s string) string {
	if len(s) > 40 {
		return fmt.Sprintf("%q and so on, %d bytes", s[:40], len(s))
	}
	return fmt.Sprintf("%q", s)
}

// askParse holds Parse against the texts of all orders: another text is none's.
func askParse(t *testing.T, texts map[string]api.Order, s string) {
	t.Helper()
	want, is := texts[s]
	errno := api.ErrVerbText
	if is {
		errno = api.OK
	}
	if o, e := verb.Parse(s); o != want || e != errno {
		t.Errorf("Parse(%s): %v %d, not %v %d", short(s), o, e, want, errno)
	}
}

func TestP7_3Print(t *testing.T) {
	for _, c := range []struct {
		o    api.Order
		want string
		e    api.Errno
	}{
		{api.Order{Verb: api.Steer, A: -8, B: 8}, "steer -8 8", api.OK}, {api.Order{Verb: api.Steer}, "steer 0 0", api.OK}, {api.Order{Verb: api.Steer, A: 3, B: -1}, "steer 3 -1", api.OK},
		{api.Order{Verb: api.Halt}, "halt", api.OK}, {api.Order{Verb: api.Aim, A: 15}, "aim 15", api.OK}, {api.Order{Verb: api.Aim}, "aim 0", api.OK}, {api.Order{Verb: api.Fire, A: 3}, "fire 3", api.OK},
		{api.Order{Verb: api.Shield}, "shield 0", api.OK}, {api.Order{Verb: api.Shield, A: 1}, "shield 1", api.OK}, {api.Order{Verb: api.Dash, A: 4}, "dash 4", api.OK}, {api.Order{Verb: api.Say, A: 7}, "say 7", api.OK}, {api.Order{Verb: api.Say, A: 255}, "say 255", api.OK},
		{api.Order{Verb: api.Fire}, "", api.ErrVerbOperand}, {api.Order{Verb: api.Halt, C: 1}, "", api.ErrVerbOperand}, {api.Order{Verb: api.Aim, B: 1}, "", api.ErrVerbOperand}, {api.Order{}, "", api.ErrVerbNone}, {api.Order{Verb: 8}, "", api.ErrVerbNone}, {api.Order{Verb: 8, A: 1000}, "", api.ErrVerbNone},
	} {
		if s, e := verb.Print(c.o); s != c.want || e != c.e {
			t.Errorf("Print(%v): %q %d", c.o, s, e)
		}
	}
}

func TestP7_3PrintAtEdges(t *testing.T) {
	edgeOrders(func(o api.Order) {
		want, errno := "", meantCheck(o)
		if errno == api.OK {
			want = meantPrint(o)
		}
		if s, e := verb.Print(o); s != want || e != errno {
			t.Errorf("Print(%v): %q %d, not %q %d", o, s, e, want, errno)
		}
	})
}

func TestP7_3Parse(t *testing.T) {
	for s, want := range map[string]api.Order{
		"fire 2": {Verb: api.Fire, A: 2}, "steer -8 8": {Verb: api.Steer, A: -8, B: 8}, "steer 8 -8": {Verb: api.Steer, A: 8, B: -8}, "steer 0 0": {Verb: api.Steer}, "halt": {Verb: api.Halt},
		"aim 15": {Verb: api.Aim, A: 15}, "shield 1": {Verb: api.Shield, A: 1}, "dash 10": {Verb: api.Dash, A: 10}, "say 255": {Verb: api.Say, A: 255}, "say 0": {Verb: api.Say},
	} {
		if o, e := verb.Parse(s); o != want || e != api.OK {
			t.Errorf("Parse(%q): %v %d", s, o, e)
		}
	}
}

func TestP7_3ParseNone(t *testing.T) {
	for _, s := range []string{
		"", " ", "  ", "   ", "    ", "     ", "x", "run", "run 1", "1", "1 2", "-", "0",
		"Halt", "HALT", "halT", "Fire 2", "fIRE 2", "Steer 0 0",
		"halt ", " halt", "halt  ", "halt\n", "halt\r\n", "\nhalt", "halt\t", "halt\x00", "halt 0", "halt  0", "halt 0 0", "halt 0 0 0", "halt halt",
		" fire 2", "fire 2 ", "fire  2", "fire\t2", "fire\u00a02", "fire2", "fire", "fire ", "fire 02", "fire 002", "fire +2", "fire -2", "fire 2.0", "fire 2,", "fire 0x2", "fire 2_0", "fire ２", "fire ۲", "fire two", "fire 2 0", "fire 2 2", "fire 2 0 0", "fire 2 0 0 0", "fire 0", "fire 4", "fire -1", "fire 00", "fire 2\n",
		"steer", "steer 1", "steer 1 ", "steer  1", "steer 1  1", "steer 1 1 ", "steer 1 1 0", "steer 1 1 1", "steer 1 1 0 0", "steer -0 0", "steer 0 -0", "steer +1 1", "steer 1 +1", "steer 01 1", "steer 1 01", "steer -01 1", "steer 9 0", "steer 0 9", "steer -9 0", "steer 0 -9", "steer --1 1", "steer - 1", "steer 1 -", "steer 1,1", "steer 1 x", "steer x 1", "steer −1 1",
		"aim", "aim 16", "aim -1", "aim -0", "aim 00", "aim 1e1", "dash", "dash 16", "dash -1", "dash 015", "shield", "shield 2", "shield on", "shield true", "shield -0", "shield -1", "say", "say 256", "say -1", "say 0255", "say 1000", "say hello", "say \"1\"",
		"say 4294967296", "say 4294967297", "say 18446744073709551616", "say 18446744073709551617", "say 9223372036854775807", "say 9223372036854775808", "say -9223372036854775808", "say -9223372036854775809", "say 99999999999999999999999999", "steer 18446744073709551615 0", "steer 0 18446744073709551608",
		"\xff", "halt\xff", "\xffhalt", "h\xe4lt", "hält", "fire \xff", "fire 2\x80", "ﬁre 2", "ſay 1", "сay 1", "say \u0661", "\u200bhalt", "halt\u200b", "\ufeffhalt",
	} {
		if o, e := verb.Parse(s); o != (api.Order{}) || e != api.ErrVerbText {
			t.Errorf("Parse(%q): %v %d", s, o, e)
		}
	}
}

func TestP7_3ParseLong(t *testing.T) {
	const many = 1 << 20
	for _, s := range []string{
		strings.Repeat("x", many), strings.Repeat(" ", many), "halt" + strings.Repeat(" ", many), strings.Repeat(" ", many) + "halt", strings.Repeat("halt ", many), strings.Repeat("1 ", many), "fire " + strings.Repeat("0", many) + "2", "fire " + strings.Repeat("2", many), "fire 2" + strings.Repeat("\x00", many), "steer 1 1" + strings.Repeat(" 0", many), "say " + strings.Repeat("-", many), "steer 0 -" + strings.Repeat("9", many), strings.Repeat("\xff", many),
	} {
		if o, e := verb.Parse(s); o != (api.Order{}) || e != api.ErrVerbText {
			t.Errorf("Parse(%s): %v %d", short(s), o, e)
		}
	}
}

// TestP7_3ParseAround asks all texts that are one byte away from an order's.
func TestP7_3ParseAround(t *testing.T) {
	texts := allTexts()
	for s := range texts {
		for i := 0; i <= len(s); i++ {
			for _, b := range []byte(" 0123456789-+ahrtHS_.\x00\n\t\x80\xff") {
				askParse(t, texts, s[:i]+string([]byte{b})+s[i:])
				if i < len(s) {
					askParse(t, texts, s[:i]+string([]byte{b})+s[i+1:])
				}
			}
			if i < len(s) {
				askParse(t, texts, s[:i]+s[i+1:])
				askParse(t, texts, s[:i])
				askParse(t, texts, s[i:])
			}
		}
	}
}

// TestP7_3ParseWords asks texts of words that stand in orders, and of ones that nearly do.
func TestP7_3ParseWords(t *testing.T) {
	texts := allTexts()
	words := []string{"steer", "halt", "aim", "fire", "shield", "dash", "say", "Steer", "", "0", "1", "2", "3", "8", "9", "-8", "-9", "-0", "+1", "01", "15", "16", "255", "256", "x"}
	for _, a := range words {
		askParse(t, texts, a)
		for _, b := range words {
			askParse(t, texts, a+" "+b)
			for _, c := range words {
				askParse(t, texts, a+" "+b+" "+c)
				askParse(t, texts, a+" "+b+" "+c+" 0")
			}
		}
	}
	r := rand.New(rand.NewSource(7))
	for range 50000 {
		l := make([]string, r.Intn(6))
		for i := range l {
			l[i] = words[r.Intn(len(words))]
		}
		askParse(t, texts, strings.Join(l, " "))
	}
}

func TestP7_4ParseOfPrint(t *testing.T) {
	orders := allOrders()
	if len(orders) != 583 {
		t.Fatalf("%d orders", len(orders))
	}
	texts := map[string]bool{}
	for _, o := range orders {
		s, e := verb.Print(o)
		if e != api.OK || texts[s] {
			t.Errorf("Print(%v): %q %d", o, s, e)
		}
		texts[s] = true
		if back, e := verb.Parse(s); back != o || e != api.OK {
			t.Errorf("Parse(%q): %v %d", s, back, e)
		}
	}
}

// TestP7_4Count counts the orders that Check lets through, in a range wider than any operand's.
func TestP7_4Count(t *testing.T) {
	all := 0
	for _, v := range meant {
		n := 0
		for a := -300; a <= 300; a++ {
			for b := -20; b <= 20; b++ {
				for c := -2; c <= 2; c++ {
					if verb.Check(api.Order{Verb: v.number, A: a, B: b, C: c}) == api.OK {
						n++
					}
				}
			}
		}
		if n != v.orders {
			t.Errorf("%s: %d orders, not %d", v.name, n, v.orders)
		}
		all += n
	}
	if all != 583 {
		t.Errorf("%d orders", all)
	}
}

func TestP7_4NamesUnlike(t *testing.T) {
	seen := map[string]int{}
	for n := 1; n <= verb.Count(); n++ {
		s := verb.Name(n)
		if before, is := seen[s]; is || s == "" {
			t.Errorf("%d and %d: %q", before, n, s)
		}
		seen[s] = n
	}
	if len(seen) != 7 {
		t.Errorf("%d names", len(seen))
	}
}
