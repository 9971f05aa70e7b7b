package code

import (
	"bytes"

	"echelon/api"
)

// Reader takes them up again.
type Reader struct {
	left  []byte // from the place on
	errno api.Errno
}

// NewReader is one over bytes (P2.4).
func NewReader(b []byte) *Reader { return &Reader{left: bytes.Clone(b)} }

// Uint takes a number without a sign up (P2.4).
func (r *Reader) Uint() uint64 { return take(r, number) }

// Int takes a number with a sign up (P2.4).
func (r *Reader) Int() int64 {
	return take(r, func(b []byte) (int64, int, api.Errno) {
		n, size, errno := number(b)
		return unfold(n), size, errno
	})
}

// Byte takes a byte up (P2.4).
func (r *Reader) Byte() byte { return take(r, firstByte) }

// Bytes takes bytes up, if they are at most so many (P2.4).
func (r *Reader) Bytes(most int) []byte {
	return take(r, func(b []byte) ([]byte, int, api.Errno) { return firstBytes(b, most) })
}

// take answers what a function finds at the reader's place, and how many bytes its form has: whatever kind of thing it is, an error stays, and leaves the place where it is.
func take[T any](r *Reader, find func(b []byte) (T, int, api.Errno)) T {
	var none T
	if r.errno != api.OK {
		return none
	}
	thing, size, errno := find(r.left)
	if errno != api.OK {
		r.errno = errno
		return none
	}
	r.left = r.left[size:]
	return thing
}

func firstByte(b []byte) (byte, int, api.Errno) {
	if len(b) == 0 {
		return 0, 0, api.ErrCodeShort
	}
	return b[0], 1, api.OK
}

func firstBytes(b []byte, most int) ([]byte, int, api.Errno) {
	n, size, errno := number(b)
	if errno != api.OK {
		return nil, 0, errno
	}
	if most < 0 || n > uint64(most) {
		return nil, 0, api.ErrCodeLong
	}
	behind := b[size:]
	if n > uint64(len(behind)) {
		return nil, 0, api.ErrCodeShort
	}
	// A copy, so that who has it can't change what is yet to be taken up.
	return bytes.Clone(behind[:n]), size + int(n), api.OK
}

// Left is how many bytes are left (P2.5).
func (r *Reader) Left() int { return len(r.left) }

// Done is the error; bytes that are left are one (P2.5).
func (r *Reader) Done() api.Errno {
	if r.errno == api.OK && len(r.left) > 0 {
		return api.ErrCodeMore
	}
	return r.errno
}
