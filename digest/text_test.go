package digest_test

import (
	"fmt"
	"math"
	"math/big"
	"math/rand"
	"regexp"
	"strings"
	"testing"

	"echelon/api"
	"echelon/digest"
)

func TestP3_4Print(t *testing.T) {
	for d, want := range map[uint64]string{
		0:                  "0000000000000000",
		9:                  "0000000000000009",
		10:                 "000000000000000a",
		255:                "00000000000000ff",
		0x0123456789abcdef: "0123456789abcdef",
		0xfedcba9876543210: "fedcba9876543210",
		1 << 60:            "1000000000000000",
		1<<60 - 1:          "0fffffffffffffff",
		1 << 63:            "8000000000000000",
		math.MaxUint64 - 1: "fffffffffffffffe",
		math.MaxUint64:     "ffffffffffffffff",
	} {
		if got := digest.Print(d); got != want {
			t.Errorf("Print(%d): %q, want %q", d, got, want)
		}
	}
	for _, d := range numbers(34, 20000) {
		if got, want := digest.Print(d), fmt.Sprintf("%016x", d); got != want {
			t.Fatalf("Print(%d): %q, want %q", d, got, want)
		}
	}
}

var written = regexp.MustCompile(`\A[0-9a-f]{16}\z`)

// meantParse is what P3.4 says of a text, read by other means than the program's.
func meantParse(s string) (uint64, api.Errno) {
	if !written.MatchString(s) {
		return 0, api.ErrDigestText
	}
	n, _ := new(big.Int).SetString(s, 16)
	return n.Uint64(), api.OK
}

func checkParse(t *testing.T, s string) {
	t.Helper()
	d, errno := digest.Parse(s)
	if want, wantErrno := meantParse(s); d != want || errno != wantErrno {
		t.Errorf("Parse(%.40q), %d bytes: %d %d, want %d %d", s, len(s), d, errno, want, wantErrno)
	}
}

func TestP3_4Parse(t *testing.T) {
	for s, want := range map[string]uint64{
		"0000000000000000": 0,
		"00000000000000ff": 255,
		"0123456789abcdef": 0x0123456789abcdef,
		"8000000000000000": 1 << 63,
		"ffffffffffffffff": math.MaxUint64,
	} {
		if d, errno := digest.Parse(s); d != want || errno != api.OK {
			t.Errorf("Parse(%q): %d %d, want %d", s, d, errno, want)
		}
	}
}

func TestP3_4ParseRefuses(t *testing.T) {
	for _, s := range []string{
		"", "0", "ff", "00000000000000FF", "00000000000000fF", "A000000000000000",
		"000000000000000g", "g000000000000000", "000000000000000G", "00000000000000 f",
		" 0000000000000ff", "00000000000000ff ", " 00000000000000ff", "00000000000000ff\n",
		"+0000000000000ff", "-0000000000000ff", "-00000000000000ff", "+00000000000000ff",
		"0x000000000000ff", "0X000000000000ff", "0x00000000000000ff",
		"0000_0000_0000ff", "00000000_0000000", "_000000000000000", "0o00000000000007",
		"000000000000000\x00", "00000000000000\xff\xff", "00000000000000é", "000000000000000é",
		"０000000000000", "000000000000000٣", "0000000000000.0f", "00000000000000p1",
		"18446744073709551615", "18446744073709551616", "10000000000000000",
	} {
		if d, errno := digest.Parse(s); d != 0 || errno != api.ErrDigestText {
			t.Errorf("Parse(%q): %d %d, want 0 %d", s, d, errno, api.ErrDigestText)
		}
	}
}

func TestP3_4ParseEveryLength(t *testing.T) {
	for size := range 70 {
		for _, digit := range []string{"0", "1", "7", "f", "F", "g"} {
			checkParse(t, strings.Repeat(digit, size))
			checkParse(t, strings.Repeat("0", size)+digit)
		}
	}
	checkParse(t, strings.Repeat("0", 1<<20))
	checkParse(t, strings.Repeat("f", 1<<20))
}

func TestP3_4ParseEveryByteAtEveryPlace(t *testing.T) {
	for _, s := range []string{"0000000000000000", "0123456789abcdef", "ffffffffffffffff"} {
		for at := range s {
			for c := range 256 {
				b := []byte(s)
				b[at] = byte(c)
				checkParse(t, string(b))
			}
		}
	}
}

func TestP3_4ParseAtRandom(t *testing.T) {
	const signs = "0123456789abcdefABCDEFgxX_+- "
	rnd := rand.New(rand.NewSource(39))
	for range 100000 {
		b := make([]byte, 14+rnd.Intn(5))
		among := 16 + rnd.Intn(2)*rnd.Intn(len(signs)-15)
		for i := range b {
			b[i] = signs[rnd.Intn(among)]
		}
		checkParse(t, string(b))
	}
}

func TestP3_6ParseOfPrint(t *testing.T) {
	for _, d := range numbers(40, 100000) {
		s := digest.Print(d)
		if got, errno := digest.Parse(s); got != d || errno != api.OK {
			t.Fatalf("Parse(Print(%d)), %q: %d %d", d, s, got, errno)
		}
	}
}
