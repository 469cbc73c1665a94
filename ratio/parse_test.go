package ratio_test

import (
	"math/big"
	"regexp"
	"strconv"
	"strings"
	"testing"

	"sterling/ratio"
)

// The forms of a literal as the chapter of scan lists them.
var (
	wholeForm = regexp.MustCompile(`^(0|[1-9][0-9]*|0[xX][0-9a-fA-F]+|0[oO][0-7]+|0[bB][01]+)$`)
	floatForm = regexp.MustCompile(`^([0-9]+\.[0-9]*([eE][+-]?([0-9]+))?|[0-9]+[eE][+-]?([0-9]+)|\.[0-9]+([eE][+-]?([0-9]+))?)$`)
	hexForm   = regexp.MustCompile(`^0[xX]([0-9a-fA-F]+\.?[0-9a-fA-F]*|\.[0-9a-fA-F]+)[pP][+-]?([0-9]+)$`)
	exponent  = regexp.MustCompile(`[eEpP][+-]?0*([0-9]+)$`)
)

func isLiteral(s string) bool {
	if wholeForm.MatchString(s) {
		return true
	}
	if !floatForm.MatchString(s) && !hexForm.MatchString(s) {
		return false
	}
	digits := exponent.FindStringSubmatch(s)
	return digits == nil || len(digits[1]) <= 3
}

// expectParse asks for the library's value of a literal, and for none of any other text.
func expectParse(t *testing.T, s string) {
	t.Helper()
	got, ok := ratio.Parse(s)
	if !isLiteral(s) {
		expectNone(t, "P2.2", "Parse of "+strconv.Quote(s), got, ok)
		return
	}
	if !ok {
		t.Errorf("P2.2: Parse(%q) is false", s)
		return
	}
	want, known := new(big.Rat).SetString(s)
	if !known {
		t.Fatalf("%q: the library knows no value", s)
	}
	expect(t, "P2.2", s, got, want)
}

// All texts of up to five of these bytes: literals of every form and whatever is nearly one.
func TestParseShortTexts(t *testing.T) {
	const alphabet = "0178aexXob.pE+-_"
	texts := []string{""}
	for size := 0; size <= 4; size++ {
		var longer []string
		for _, s := range texts {
			expectParse(t, s)
			for i := range len(alphabet) {
				longer = append(longer, s+alphabet[i:i+1])
			}
		}
		texts = longer
	}
	for i, s := range texts {
		if i%3 == 0 || s[0] == '0' {
			expectParse(t, s)
		}
	}
}

func TestParseLiterals(t *testing.T) {
	long := strings.Repeat("1234567890", 30)
	for _, s := range []string{
		"18446744073709551616", "0xFFFFffffFFFFffff0", "0XAbCdEf", "0O777", "0B0001", "0x00", "0x1e5", "0x0p0",
		"3.14159", "0.1", "000.125", "010.", "08e1", "09.5E+2", "1e+0", "1e-0", "0e999", "0.0", ".0e-999",
		"1e999", "1E-999", "1.5e-999", "1e0999", "1e-000000999", "00000000000000000001e0", "1.50000", "100e-2",
		"0x1P+10", "0X.8p1", "0x8.p-3", "0xf.fP-8", "0xep1", "0x1p999", "0x1p-999", "0x0.0p5", "0x001.8p00999",
		long, long + ".", "." + long, long + "." + long + "e-99", "0x" + long + "." + long + "p-7", "0b" + strings.Repeat("10", 200),
	} {
		if !isLiteral(s) {
			t.Errorf("%q is to be a literal", s)
		}
		expectParse(t, s)
	}
}

func TestParseNoLiterals(t *testing.T) {
	for _, s := range []string{
		"", " ", "1 ", " 1", "\n", "1\x00", "-1", "+1", "1/2", "1_000", "00", "01", "0_1", "0b", "0o", "0x", "0b12", "0o8",
		"0xg", "1a", "1f", "0b1.0", "0o1.", "0b1e1", "0o1p1", "0b1p1", ".", "e", "e1", ".e1", "1e", "1e-", "1e+", "1E1.5",
		"1e1e1", "1e++1", "1e+-1", "1e-+1", "1e--1", "1..", "1.2.3", "1.e", "1p1", "1.5p1", "1e0x1", "1ea",
		"1e1000", "1e-1000", "1e01000", "0e1000", "1e18446744073709551616", "1e-18446744073709551617",
		"0x1p1000", "0x1p-1000", "0x0p1000", "0x1.8", "0x.", "0x.p0", "0xp0", "0x1p", "0x1p+", "0x1p1a", "0x1p1p1", "0x1p1.",
		"0x1..p1", "0x-1p1", "0xx1", "00x1", "0x0x1", "x1", "inf", "NaN", "'a'", "1i", "٣", "１", "\xff", "1e\u0661",
		"1e" + strings.Repeat("9", 5000),
	} {
		if isLiteral(s) {
			t.Errorf("%q is to be no literal", s)
		}
		expectParse(t, s)
	}
}

// A zero's number in an exponent may be as long as it likes.
func TestParseLongExponent(t *testing.T) {
	expectParse(t, "1e"+strings.Repeat("0", 5000)+"3")
	expectParse(t, "1e-"+strings.Repeat("0", 5000)+"999")
}
