package digest

// begin is what a sum stands at ahead of its first byte.
const begin = 14695981039346656037

// Sum is bytes that come piece by piece. The bytes are not kept: what they have made of the sum so far, and how many they are, is all that Value asks for.
type Sum struct {
	stand uint64
	size  uint64
}

// New has none (P3.5).
func New() *Sum { return &Sum{stand: begin} }

// Add takes bytes in (P3.5).
func (s *Sum) Add(b []byte) { each(b, s.take) }

// take takes one byte in.
func (s *Sum) take(c byte) {
	s.stand = (s.stand ^ uint64(c)) * factors[perByte]
	s.size++
}

// each hands bytes over one by one, so that a piece's end leaves no trace.
func each(b []byte, take func(c byte)) {
	for _, c := range b {
		take(c)
	}
}

// Value is their sum so far (P3.5).
func (s *Sum) Value() uint64 { return Mix(s.stand + s.size) }

// Clone is another one, alike (P3.5).
func (s *Sum) Clone() *Sum {
	clone := *s
	return &clone
}
