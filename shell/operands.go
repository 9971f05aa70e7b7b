package shell

import (
	"strconv"
	"strings"

	"echelon/api"
	"echelon/arena"
	"echelon/verb"
	"echelon/world"
)

// operands are what stands behind a line's first word. Each line has some of them.
type operands struct {
	seat    int
	rung    int
	frame   int
	number  int // of a parcel, or of rounds
	order   api.Order
	session api.Config
	begins  bool // it has a session
}

func (o *operands) readNothing(words []string) error { return readNumbers(words) }

func (o *operands) readSeat(words []string) error { return readNumbers(words, &o.seat) }

func (o *operands) readNumber(words []string) error { return readNumbers(words, &o.number) }

func (o *operands) readRung(words []string) error { return readNumbers(words, &o.seat, &o.rung) }

func (o *operands) readFrame(words []string) error { return readNumbers(words, &o.seat, &o.frame) }

func (o *operands) readOrder(words []string) error {
	ahead, text := cut(words, 2)
	if why := readNumbers(ahead, &o.seat, &o.frame); why != nil {
		return why
	}
	order, errno := verb.Parse(strings.Join(text, blank))
	if errno != api.OK {
		return errOrder
	}
	o.order = order
	return nil
}

// withPeers stands ahead of how many peers there are.
const withPeers = "x"

func (o *operands) readSession(words []string) error {
	standard, seed, peers := 0, 0, api.MinPeers
	ahead, rest := cut(words, 2)
	if why := readNumbers(ahead, &standard, &seed); why != nil {
		return why
	}
	if seed < 0 {
		return errNumber
	}
	if len(rest) > 0 && rest[0] == withPeers {
		ahead, rest = cut(rest[1:], 1)
		if why := readNumbers(ahead, &peers); why != nil {
			return why
		}
	}
	lags := make([]int, len(rest))
	for i := range lags {
		if why := readNumbers(rest[i:i+1], &lags[i]); why != nil {
			return why
		}
	}
	o.begins = true
	return o.makeSession(standard, uint64(seed), peers, lags)
}

func (o *operands) makeSession(standard int, seed uint64, peers int, lags []int) error {
	a, errno := arena.Standard(standard)
	if errno != api.OK {
		return errSession
	}
	o.session = api.Config{Peers: peers, Seed: seed, Arena: a, Lags: lags}
	if world.CheckConfig(o.session) != api.OK {
		return errSession
	}
	return nil
}

// cut is the first n words, or all if there are fewer, and the others.
func cut(words []string, n int) ([]string, []string) {
	n = min(n, len(words))
	return words[:n], words[n:]
}

// readNumbers reads just as many numbers as there are places for them.
func readNumbers(words []string, places ...*int) error {
	if len(words) != len(places) {
		return errWords
	}
	for i, place := range places {
		n, err := strconv.Atoi(words[i])
		// What can be read may still be told in another way: with noughts or a plus sign ahead, or as a minus and 0.
		if err != nil || strconv.Itoa(n) != words[i] {
			return errNumber
		}
		*place = n
	}
	return nil
}
