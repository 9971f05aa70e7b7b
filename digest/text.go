package digest

import (
	"strconv"
	"strings"

	"echelon/api"
)

// A sum's text: every digit stands for four of its 64 bits.
const (
	base   = 16
	digits = 16
)

// Print is a sum as text (P3.4).
func Print(d uint64) string {
	s := strconv.FormatUint(d, base)
	return strings.Repeat("0", digits-len(s)) + s
}

// Parse reads such a text (P3.4).
func Parse(s string) (uint64, api.Errno) {
	d, err := strconv.ParseUint(s, base, 64)
	// The library reads other forms too: short ones, and capital letters.
	if err != nil || Print(d) != s {
		return 0, api.ErrDigestText
	}
	return d, api.OK
}
