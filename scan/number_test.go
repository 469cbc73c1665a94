package scan_test

import (
	"math/rand"
	"strings"
	"testing"

	"sterling/api"
	"sterling/ratio"
)

func TestWholeNumbers(t *testing.T) {
	for _, s := range []string{
		"0", "1", "9", "10", "90", "1234567890", "18446744073709551616",
		"0x0", "0X0", "0x1", "0xf", "0xF", "0x0123456789abcdefABCDEF", "0x1e", "0xE", "0x1e5", "0x1e1000", "0x00", "0xb", "0Xb1",
		"0b0", "0B1", "0b10", "0b0011", "0o0", "0O7", "0o01234567", strings.Repeat("9", 3000),
	} {
		expectOne(t, s, api.TInt, true)
	}
}

func TestFloats(t *testing.T) {
	for _, s := range []string{
		"0.", "1.", "00.", "007.", "08.", "0.0", "1.5", "08.5", "00123.45600",
		"1.e3", "1.E3", "1.e+3", "1.5e-3", "0.0e0", "1e3", "1E3", "1e+3", "1e-3", "0e0", "00e0", "09e1", "1e000", "1e999", "1E-999", "1e+999", "1e0999", "1e-000000999",
		".0", ".5", ".05", ".5e1", ".5E+1", ".5e-999", "1e" + strings.Repeat("0", 3000) + "999",
		"0x1p0", "0X1P0", "0x1p-2", "0x1P+2", "0x1.p1", "0x1.8p1", "0x.8p1", "0xA.bCp10", "0x00.00p00", "0xep1", "0x1e.ep1", "0x1p999", "0x1p-999", "0x.0p0999",
	} {
		expectOne(t, s, api.TFloat, true)
	}
}

func TestWrongNumbers(t *testing.T) {
	for _, s := range []string{
		"00", "01", "07", "08", "000", "0123", "00x1", "0_1", "1_0", "1_", "1_000.5",
		"0x", "0X", "0b", "0B", "0o", "0O", "0xg", "0xG", "0x_1", "0x ", "0o8", "0b2", "0b12", "0o78", "0o7a", "0b1a", "0x1g", "0b_1", "0o1_",
		"0b1e3", "0o1e3", "0b1.", "0o1.", "0b.1", "0o.1", "0b1p3", "0o1p3", "0b1.1",
		"1e", "1E", "1e+", "1e-", "1.e", "1.e+", ".5e", ".5E-", "1e++1", "1e+-1", "1e.5", "1ee1", "1e1e1", "1e 5", "1eg", "1e+x",
		"1e1000", "1E+1000", "1e-1000", "1e01000", ".5e1000", "1.e9999", "1e99999999999999999999999", "1e-18446744073709551616", "1e9223372036854775808",
		"0x1p", "0x1p+", "0x1P-", "0x1.8p", "0x1.", "0x1.8", "0x.8", "0x.", "0xp1", "0x.p1", "0x1p1000", "0x1p-1000", "0x1.8p01000", "0x1pg", "0x1pf", "0x1p1f", "0x1.8e1", "0x1.8g",
		"1x", "1a", "1Z", "1_", "1i", "1p1", "1p", "12if", "0x1z", "0xfz", "1.x", "1.5x", "1.5_", ".5x", ".5_", "1e5x", "1e5_", "1.p1", "0x1p1x", "0x1p1_", "0z", "0_", "0i",
		"1..", "1...", "1..2", "1.2.3", "1.2.", "1.2.x", ".5.", ".5.5", "1e5.", "1e5.5", "1.e5.", "0x1p1.", "0x1p1.5", "0x1.8.p1", "0x1..p1", "0x..1p1", "00..", "0..",
	} {
		expectWrong(t, s, 0, len(s))
		expectWrong(t, "a + "+s+" + b", 4, 4+len(s))
		expectWrong(t, "(\n"+s+")", 2, 2+len(s))
	}
}

func TestWhatStandsBehindNumbers(t *testing.T) {
	for s, want := range map[string]string{
		"1+2":        "21@0 5+@1 22@2 7!@3 0@3",
		"0x1e+5":     "20x1e@0 5+@4 25@5 7!@6 0@6",
		"0x1e-5":     "20x1e@0 5-@4 25@5 7!@6 0@6",
		"0x1p+5+5":   "30x1p+5@0 5+@6 25@7 7!@8 0@8",
		"1e+5+5":     "31e+5@0 5+@4 25@5 7!@6 0@6",
		"1.+.5":      "31.@0 5+@2 3.5@3 7!@5 0@5",
		"1.:2.":      "31.@0 5:@2 32.@3 7!@5 0@5",
		"a[1:2]":     "1a@0 5[@1 21@2 5:@3 22@4 5]@5 7!@6 0@6",
		"1\"a\"":     "21@0 4\"a\"@1 7!@4 0@4",
		"1.`a`":      "31.@0 4`a`@2 7!@5 0@5",
		"1//x":       "21@0 7!@4 0@4",
		"1./**/.5":   "31.@0 3.5@6 7!@8 0@8",
		"x.1":        "1x@0 3.1@1 7!@3 0@3",
		"x1.5":       "1x1@0 3.5@2 7!@4 0@4",
		"x.1e2":      "1x@0 3.1e2@1 7!@5 0@5",
		"x.e1":       "1x@0 5.@1 1e1@2 7!@4 0@4",
		"1 .x":       "21@0 5.@2 1x@3 7!@4 0@4",
		"1 .5":       "21@0 3.5@2 7!@4 0@4",
		"-1":         "5-@0 21@1 7!@2 0@2",
		"1e5;":       "31e5@0 7;@3 0@4",
		"0;":         "20@0 7;@1 0@2",
		"0)":         "20@0 5)@1 7!@2 0@2",
		"0\t0":       "20@0 20@2 7!@3 0@3",
		"(1.)":       "5(@0 31.@1 5)@3 7!@4 0@4",
		"f(x.y, 1.)": "1f@0 5(@1 1x@2 5.@3 1y@4 5,@5 31.@7 5)@9 7!@10 0@10",
	} {
		expectTokens(t, s, want)
	}
}

func TestLikeModelOnAllShortNumbers(t *testing.T) {
	const alphabet = "018a.exXpbo+_"
	var walk func(s string)
	walk = func(s string) {
		expectLikeModel(t, s)
		if len(s) == 4 {
			return
		}
		for i := range alphabet {
			walk(s + alphabet[i:i+1])
		}
	}
	for i := range alphabet {
		walk(alphabet[i : i+1])
	}
}

var numberPieces = []string{"0", "1", "7", "8", "9", "99", "000", "0x", "0X", "0b", "0O", "f", "A", "e", "E", "p", "P", "+", "-", ".", ".", "_", "999", "1000", "g", " "}

func TestLikeModelOnRandomNumbers(t *testing.T) {
	random := rand.New(rand.NewSource(55))
	for range 20000 {
		var s strings.Builder
		for range 1 + random.Intn(8) {
			s.WriteString(numberPieces[random.Intn(len(numberPieces))])
		}
		expectLikeModel(t, s.String())
	}
}

// What Scan calls a number is what its reader in package ratio takes for one: they stand on the same words.
func TestNumbersAreThoseOfRatio(t *testing.T) {
	random := rand.New(rand.NewSource(555))
	for range 5000 {
		var b strings.Builder
		for range 1 + random.Intn(6) {
			b.WriteString(numberPieces[random.Intn(len(numberPieces)-1)])
		}
		s := b.String()
		tokens, _, ok := scanned(t, s)
		one := ok && tokens[0].Text == s && (tokens[0].Kind == api.TInt || tokens[0].Kind == api.TFloat)
		if _, reads := ratio.Parse(s); reads != one {
			t.Errorf("P5.1: Scan(%q): %s, while ratio reads it: %t", s, told(tokens), reads)
		}
	}
}
