package fixed

import (
	"strconv"
	"strings"

	"echelon/api"
)

// A 256th takes eight digits behind the point.
const (
	fractions = 100000000
	perPart   = fractions / api.One // comes out even
)

// Print is a number as text.
func Print(x int) string {
	size := Abs(x)
	text := strconv.Itoa(size / api.One)
	if rest := size % api.One; rest != 0 {
		text += "." + printRest(rest)
	}
	if x < 0 {
		text = "-" + text
	}
	return text
}

func printRest(rest int) string {
	// The 1 ahead keeps the noughts that the digits may begin with.
	digits := strconv.Itoa(fractions + rest*perPart)[1:]
	return strings.TrimRight(digits, "0")
}

// Parse reads such a text.
func Parse(s string) (int, api.Errno) {
	n, ok := read(s)
	// What can be read may still be no text of Print's: too many noughts, no digits, a minus ahead of 0, parts that no 256ths make up.
	if !ok || Print(n) != s {
		return 0, api.ErrFixedText
	}
	return n, api.OK
}

// read is the number that a text of digits, with a minus ahead and a point among them or without, comes nearest to towards 0; false, if it is no such text, is beyond the bounds or has more than eight digits behind the point.
func read(s string) (int, bool) {
	sign, whole, parts := 1, 0, 0
	place := 0 // what a digit behind the point counts ten times; 0: there was no point
	for i, r := range s {
		switch {
		case r == '-' && i == 0:
			sign = -1
		case r == '.' && place == 0:
			place = fractions
		case r < '0' || r > '9' || place == 1:
			return 0, false
		case place == 0:
			whole = 10*whole + int(r-'0')
		default:
			place /= 10
			parts += place * int(r-'0')
		}
		if whole > api.MaxNum/api.One {
			return 0, false
		}
	}
	return sign * (whole*api.One + parts/perPart), true
}
