package fixed_test

import (
	"math"
	"math/big"
	"regexp"
	"strings"
	"testing"

	"echelon/api"
	"echelon/fixed"
)

func TestP1_7Print(t *testing.T) {
	for _, c := range []struct {
		x    int
		want string
	}{
		{384, "1.5"}, {-384, "-1.5"}, {-1, "-0.00390625"}, {1, "0.00390625"}, {512, "2"}, {-512, "-2"}, {0, "0"}, {128, "0.5"}, {255, "0.99609375"}, {16, "0.0625"}, {25600, "100"}, {25601, "100.00390625"}, {2560, "10"},
		{most, "8388607.99609375"}, {-most, "-8388607.99609375"}, {1 << 40, "8388607.99609375"}, {math.MinInt, "-8388607.99609375"}, {math.MaxInt, "8388607.99609375"},
	} {
		if got := fixed.Print(c.x); got != c.want {
			t.Errorf("Print(%d): %q, want %q", c.x, got, c.want)
		}
	}
}

func TestP1_7Refused(t *testing.T) {
	for _, s := range []string{
		"", "-", ".", "-.", "+", "+1", "--1", "1-", "-+1", "1-1", " 1", "1 ", "1\n", "\x001", "1\x00",
		"-0", "-0.0", "0.0", "00", "01", "-01", "00.5", "01.5", "1.50", "2.0", "0.50000000", "1.500000000000000000000000",
		".5", "-.5", "5.", "-5.", "1..5", "1.5.", "1.5.5", "1.-5", "1,5",
		"0.1", "0.3", "0.00390624", "0.00390626", "0.0039062", "0.001953125", "0.003906250", "0.0078125000",
		"8388608", "-8388608", "8388607.99609376", "8388607.998046875", "8388608.5", "18446744073709551617", "9223372036854775808", "-18446744073709551616.5", "1844674407370955161600000000000000000000.5",
		"1e3", "0x10", "1_0", "a", "NaN", "inf", "\u0661", "\uff11", "\u22121", "1\u00b75", "\xff", "1\xff", "1.\xc0\x80", "1.5\u00e9",
		strings.Repeat("0", 100000), strings.Repeat("9", 100000), "0." + strings.Repeat("0", 100000), "1." + strings.Repeat("9", 100000), "0.5" + strings.Repeat("0", 100000), strings.Repeat("-", 100000), strings.Repeat(".", 100000),
	} {
		if n, e := fixed.Parse(s); n != 0 || e != api.ErrFixedText {
			t.Errorf("Parse(%.40q): %d %d", s, n, e)
		}
	}
}

var form = regexp.MustCompile(`^-?(0|[1-9][0-9]*)(\.[0-9]*[1-9])?$`)

// meant is what a text says by the document's form of it, read by other means than Parse's.
func meant(s string) (int, api.Errno) {
	if !form.MatchString(s) || s == "-0" {
		return 0, api.ErrFixedText
	}
	r, _ := new(big.Rat).SetString(s)
	r.Mul(r, new(big.Rat).SetInt(one))
	if !r.IsInt() || r.Num().CmpAbs(big.NewInt(most)) > 0 {
		return 0, api.ErrFixedText
	}
	return int(r.Num().Int64()), api.OK
}

func checkText(t *testing.T, s string) {
	t.Helper()
	want, e := meant(s)
	if n, f := fixed.Parse(s); n != want || f != e {
		t.Errorf("Parse(%q): %d %d, want %d %d", s, n, f, want, e)
	}
}

func TestP1_7Short(t *testing.T) {
	const signs = "-.+0125"
	texts := []string{""}
	for range 6 {
		var longer []string
		for _, s := range texts {
			checkText(t, s)
			for _, r := range signs {
				longer = append(longer, s+string(r))
			}
		}
		texts = longer
	}
}

// A text that one sign makes another one: a sign more, a sign less, a sign in another's place.
func TestP1_7Near(t *testing.T) {
	for _, x := range samples() {
		s := fixed.Print(x)
		for i := range len(s) + 1 {
			for _, r := range "-.0159 x" {
				checkText(t, s[:i]+string(r)+s[i:])
				if i < len(s) {
					checkText(t, s[:i]+string(r)+s[i+1:])
				}
			}
			if i < len(s) {
				checkText(t, s[:i]+s[i+1:])
			}
		}
	}
}

func TestP1_8Texts(t *testing.T) {
	back := func(x int) {
		s := fixed.Print(x)
		if n, e := fixed.Parse(s); n != fixed.Bound(x) || e != api.OK {
			t.Errorf("Parse(Print(%d)): %d %d of %q", x, n, e, s)
		}
		if n, e := meant(s); n != fixed.Bound(x) || e != api.OK {
			t.Errorf("Print(%d): %q", x, s)
		}
	}
	for x := -3000; x <= 3000; x++ {
		back(x)
	}
	for x := -most; x <= most; x += 999983 {
		back(x)
	}
	for x := most - 1000; x <= most+1000; x++ {
		back(x)
		back(-x)
	}
	for _, x := range samples() {
		back(x)
	}
}
