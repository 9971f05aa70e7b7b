package wire

import (
	"echelon/api"
	"echelon/code"
	"echelon/digest"
	"echelon/verb"
)

// How a datagram's bytes begin; how many bytes a number has that is written in full.
const (
	sign     = 0x65
	fullSize = 8
)

// places is how many operands an order has room for.
const places = 3

// Encode is a datagram as bytes (P16.2).
func Encode(d api.Datagram) ([]byte, api.Errno) {
	if errno := Check(d); errno != api.OK {
		return nil, errno
	}
	// No error comes of the room: a command has nine bytes at most, and all of them not a fifth of it.
	w := writer{code.NewWriter(api.MaxDatagram)}
	w.datagram(d)
	ahead, _ := w.Done()
	w.full(digest.Of(ahead))
	b, _ := w.Done()
	return b, api.OK
}

// writer lays the parts of a datagram down.
type writer struct{ *code.Writer }

func (w writer) datagram(d api.Datagram) {
	w.Byte(sign)
	w.Byte(byte(d.Kind))
	w.full(d.Session)
	w.Byte(byte(d.From))
	w.Byte(byte(d.To))
	switch d.Kind {
	case api.Turn:
		w.Uint(uint64(d.Mark))
		w.Uint(uint64(d.First))
		w.commands(d)
		fallthrough
	case api.Ack:
		w.Uint(uint64(d.Ack))
	}
}

func (w writer) commands(d api.Datagram) {
	w.Uint(uint64(len(d.Commands)))
	for _, c := range d.Commands {
		w.Int(c.Frame - d.Mark)
		w.order(c.Order)
	}
}

func (w writer) order(o api.Order) {
	w.Byte(byte(o.Verb))
	operands := [places]int{o.A, o.B, o.C}
	for place := range verb.Operands(o.Verb) {
		w.Int(int64(operands[place]))
	}
}

// full lays all eight bytes of a number down, the lowest first.
func (w writer) full(n uint64) {
	for range fullSize {
		w.Byte(byte(n))
		n >>= 8
	}
}
