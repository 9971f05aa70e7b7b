package code

import (
	"bytes"

	"echelon/api"
)

// Writer lays numbers and bytes down.
type Writer struct {
	room  int
	laid  []byte
	errno api.Errno
}

// NewWriter is one for at most so many bytes (P2.1).
func NewWriter(most int) *Writer { return &Writer{room: max(most, 0)} }

// Uint lays a number without a sign down (P2.2).
func (w *Writer) Uint(n uint64) { w.lay(numberForm(n)) }

// Int lays a number with a sign down (P2.2).
func (w *Writer) Int(n int64) { w.lay(numberForm(fold(n))) }

// Byte lays a byte down (P2.2).
func (w *Writer) Byte(b byte) { w.lay([]byte{b}) }

// Bytes lays bytes down, how many they are ahead (P2.2).
func (w *Writer) Bytes(b []byte) { w.lay(numberForm(uint64(len(b))), b) }

// lay lays the parts of one thing's form down: all of them, or none.
func (w *Writer) lay(parts ...[]byte) {
	if w.errno != api.OK {
		return
	}
	size := 0
	for _, part := range parts {
		size += len(part)
	}
	if size > w.room-len(w.laid) {
		// No call asks for the bytes any more.
		w.laid, w.errno = nil, api.ErrCodeLong
		return
	}
	for _, part := range parts {
		w.laid = append(w.laid, part...)
	}
}

// Done is what was laid down, or the error (P2.3).
func (w *Writer) Done() ([]byte, api.Errno) { return bytes.Clone(w.laid), w.errno }
