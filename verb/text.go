package verb

import (
	"strconv"
	"strings"

	"echelon/api"
)

// blank stands ahead of each operand.
const blank = " "

// Print is an order as text (P7.3).
func Print(o api.Order) (string, api.Errno) {
	if errno := Check(o); errno != api.OK {
		return "", errno
	}
	k, _ := kindOf(o.Verb)
	n := numbers(o)
	text := k.name
	for place := range k.operands {
		text += blank + strconv.Itoa(n[place])
	}
	return text, api.OK
}

// Parse reads such a text (P7.3). An order has one text only: so whatever else can be read as an order, with
// noughts ahead or a plus sign, shows by what Print writes of it.
func Parse(s string) (api.Order, api.Errno) {
	o, is := read(s)
	if !is {
		return api.Order{}, api.ErrVerbText
	}
	if text, errno := Print(o); errno != api.OK || text != s {
		return api.Order{}, api.ErrVerbText
	}
	return o, api.OK
}

// read takes a word and up to three numbers out of a text, and does not ask whether they are an order.
func read(s string) (api.Order, bool) {
	words := strings.SplitN(s, blank, 1+places+1) // one more than may be: the rest of a text that is too long
	if len(words) > 1+places {
		return api.Order{}, false
	}
	var n [places]int
	for place, word := range words[1:] {
		number, err := strconv.Atoi(word)
		if err != nil {
			return api.Order{}, false
		}
		n[place] = number
	}
	return api.Order{Verb: numberOf(words[0]), A: n[0], B: n[1], C: n[2]}, true
}
