package wire

import (
	"errors"

	"echelon/api"
	"echelon/code"
	"echelon/digest"
	"echelon/verb"
)

// Why bytes are no datagram's.
var (
	errForm = errors.New("not written as a datagram is")
	errSum  = errors.New("another sum")
	errData = errors.New("a datagram that may not be")
)

// Decode reads such bytes (P16.3).
func Decode(b []byte) (api.Datagram, api.Errno) {
	d, why := parse(b)
	return d, told(why)
}

// told is the number of an error; OK, if there is none.
func told(why error) api.Errno {
	switch {
	case errors.Is(why, errForm):
		return api.ErrWireForm
	case errors.Is(why, errSum):
		return api.ErrWireSum
	case errors.Is(why, errData):
		return api.ErrWireData
	}
	return api.OK
}

// parse is the datagram that has these bytes, or why none has.
func parse(b []byte) (api.Datagram, error) {
	if len(b) > api.MaxDatagram || len(b) < fullSize {
		return api.Datagram{}, errForm
	}
	ahead, sum := newReader(b[:len(b)-fullSize]), newReader(b[len(b)-fullSize:])
	if sum.full() != digest.Of(b[:len(b)-fullSize]) {
		return api.Datagram{}, errSum
	}
	d := ahead.datagram()
	if why := ahead.end(); why != nil {
		return api.Datagram{}, why
	}
	if Check(d) != api.OK {
		return api.Datagram{}, errData
	}
	return d, nil
}

// reader takes the parts of a datagram up. It has a reason why not, if something is a number or a byte, and yet no datagram has it there.
type reader struct {
	*code.Reader
	why error
}

func newReader(b []byte) *reader { return &reader{Reader: code.NewReader(b)} }

// must keeps the reason, if something is not so.
func (r *reader) must(is bool) {
	if !is {
		r.why = errForm
	}
}

// end is why what was taken up is no datagram; nothing, if all bytes were, each as it should be.
func (r *reader) end() error {
	r.must(r.Done() == api.OK)
	return r.why
}

// datagram takes a whole one up. What stands in a literal is taken up in the order in which it stands there.
func (r *reader) datagram() api.Datagram {
	r.must(r.Byte() == sign)
	d := api.Datagram{
		Kind:    int(r.Byte()),
		Session: r.full(),
		From:    int(r.Byte()),
		To:      int(r.Byte()),
	}
	switch d.Kind {
	case api.Turn:
		d.Mark = int64(r.upTo(api.MaxFrame))
		d.First = r.upTo(api.MaxNo)
		d.Commands = r.commands(d)
		fallthrough
	case api.Ack:
		d.Ack = r.upTo(api.MaxNo)
	default:
		r.must(false)
	}
	return d
}

// commands takes those of a Turn up, of which the mark and the first number are there already.
func (r *reader) commands(d api.Datagram) []api.Command {
	var l []api.Command
	for i := range r.upTo(mostCommands) {
		l = append(l, api.Command{
			Frame: d.Mark + r.distance(),
			Peer:  d.From,
			Seq:   d.First + i,
			Order: r.order(),
		})
	}
	return l
}

// distance takes up how far a command's frame is from the mark.
func (r *reader) distance() int64 {
	n := r.Int()
	r.must(within(n, -api.MaxFrame, api.MaxFrame))
	return n
}

func (r *reader) order() api.Order {
	o := api.Order{Verb: int(r.Byte())}
	r.must(verb.Check(o) != api.ErrVerbNone)
	var operands [places]int
	for place := range verb.Operands(o.Verb) {
		operands[place] = int(r.Int())
	}
	o.A, o.B, o.C = operands[0], operands[1], operands[2]
	return o
}

// upTo takes a number without a sign up. One above the most is taken for 0, so that nobody begins upon more things than there may be.
func (r *reader) upTo(most uint64) int {
	n := r.Uint()
	if n > most {
		r.must(false)
		return 0
	}
	return int(n)
}

// full takes all eight bytes of a number up, the lowest first.
func (r *reader) full() uint64 {
	n := uint64(0)
	for place := range fullSize {
		n |= uint64(r.Byte()) << (8 * place)
	}
	return n
}
