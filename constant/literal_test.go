package constant_test

import (
	"math/big"
	"regexp"
	"strconv"
	"strings"
	"testing"

	"sterling/api"
	"sterling/constant"
)

func lit(kind int, s string) string {
	return tell(constant.Lit(api.Node{Kind: kind, Text: s}))
}

func expectLit(t *testing.T, kind int, s, want string) {
	t.Helper()
	if got := lit(kind, s); got != want {
		t.Errorf("P10.1: Lit of kind %d, %s: %s, not %s", kind, brief(strconv.Quote(s)), brief(got), brief(want))
	}
}

func TestLitInt(t *testing.T) {
	for s, want := range map[string]string{
		"0": "0", "7": "7", "10": "10", "1234567890": "1234567890", "340282366920938463463374607431768211456": "340282366920938463463374607431768211456",
		"0x0": "0", "0x1F": "31", "0X1f": "31", "0xabcdef": "11259375", "0xABCDEF": "11259375", "0x00ff": "255", "0xe1": "225", "0xB": "11",
		"0o17": "15", "0O17": "15", "0o007": "7", "0b101": "5", "0B101": "5", "0b0": "0", "0b0001": "1",
	} {
		expectLit(t, api.NInt, s, want)
	}
}

func TestLitFloat(t *testing.T) {
	for s, want := range map[string]string{
		"0.": "float 0/1", "0.0": "float 0/1", ".0": "float 0/1", "0e0": "float 0/1", "0e999": "float 0/1", "0E-999": "float 0/1", "0x0p0": "float 0/1",
		"0x.0p5": "float 0/1", "000.000": "float 0/1", ".00e1": "float 0/1", "0x00.00p-1": "float 0/1",
		"1.": "float 1/1", "1.0": "float 1/1", "1.5": "float 3/2", ".25": "float 1/4", "1.50": "float 3/2", "0012.5": "float 25/2", "08.": "float 8/1", "09e1": "float 90/1",
		"1e3": "float 1000/1", "1E3": "float 1000/1", "1e+3": "float 1000/1", "1e-3": "float 1/1000", "1.e3": "float 1000/1", ".5e1": "float 5/1", "2E-2": "float 1/50",
		"1e0003": "float 1000/1", "1.000e0": "float 1/1", "100.0e-2": "float 1/1", "120.0340": "float 60017/500", "10.0": "float 10/1",
		"0x1p4": "float 16/1", "0X1P4": "float 16/1", "0x1p+4": "float 16/1", "0x1p-2": "float 1/4", "0x1.8p0": "float 3/2", "0x.8p1": "float 1/1", "0x1.p1": "float 2/1",
		"0xA.80p0": "float 21/2", "0x0E.0p0": "float 14/1", "0x1e2p0": "float 482/1", "0x10.10p-4": "float 257/256", "0x1p999": "float " + power(999).Num().String() + "/1",
		"1e999": "float 1" + strings.Repeat("0", 999) + "/1", "1e-999": "float 1/1" + strings.Repeat("0", 999),
	} {
		expectLit(t, api.NFloat, s, want)
	}
}

func TestLitString(t *testing.T) {
	for s, want := range map[string]string{
		`""`: ``, "``": ``, `"a"`: `a`, "`a`": `a`, `"a\n\t\\\""`: "a\n\t\\\"", `"\x41\xff\x00"`: "A\xff\x00", `"\u00e9\uffff"`: "\u00e9\uffff",
		"\"\u00e9\"": "\u00e9", "`a\nb`": "a\nb", "`a\r\nb\r`": "a\nb", "`\\n`": `\n`, "`\"`": `"`, "\"`\"": "`", `"1"`: "1", `"true"`: "true",
	} {
		expectLit(t, api.NString, s, strconv.Quote(want))
	}
}

// Nodes of all other kinds are refused, whatever their texts.
func TestLitOtherNodes(t *testing.T) {
	for kind := -3; kind < 60; kind++ {
		if kind == api.NInt || kind == api.NFloat || kind == api.NString {
			continue
		}
		for _, s := range []string{"", "1", "1.5", `"a"`, "true", "-"} {
			expectLit(t, kind, s, none)
		}
	}
	child := api.Node{Kind: api.NInt, Text: "1"}
	for _, n := range []api.Node{
		{Kind: api.NParen, Kids: []api.Node{child}}, {Kind: api.NUnary, Text: "-", Kids: []api.Node{child}},
		{Kind: api.NBinary, Text: "+", Kids: []api.Node{child, child}}, {Kind: api.NName, Text: "true"}, {Kind: 1 << 62, Text: "1"}, {Kind: -1 << 63, Text: "1"}, {},
	} {
		if got := tell(constant.Lit(n)); got != none {
			t.Errorf("P10.1: Lit(%v): %s", n, got)
		}
	}
}

// What is no literal at all is none of any kind.
func TestLitWrongTexts(t *testing.T) {
	for _, s := range []string{
		"", " ", "\n", ";", "a", "true", "nil", "-1", "+1", "- 1", " 1", "1 ", "1\n", "\n1", "1;", "1 2", "1,2", "(1)", "1+2", "1//", "1/**/", "/**/1", "1_0", "0_1",
		"07", "00", "08", "0x", "0o", "0b", "0xg", "0o8", "0b2", "1a", "0b1.1", "0o1.1", "0b1e1", "0b1p1", "1p1", "0x1.8", "0x.p1", "0x1.8p", "0x1p+", "0x1pa", "1e", "1e+",
		"1e1000", "1e-1000", "1.5e01000", "0x1p1000", "0x1p-1000", ".", "..", "1..", "1.5.5", ".e1", "e5", "1.e", "1.5i", "1i", "'a'", "1.5 ", "\u0661", "1\x00", "\xff", "\x80\x81",
		`"`, `"a`, `a"`, `"a"b"`, `"a""b"`, `"a" `, ` "a"`, "\"a\nb\"", `"\a"`, `"\'"`, `"\x4"`, `"\xgg"`, `"\ud800"`, `"\u12"`, `"\U00000041"`, `"\101"`, `"\`, `"\"`,
		"\"\xff\"", "`\xff`", "`", "`a", "``a", "`a``b`", "\"a`", "\"\xed\xa0\x80\"", `"a";`, "\"a\"\n", "`a` + `b`",
	} {
		for _, kind := range []int{api.NInt, api.NFloat, api.NString} {
			expectLit(t, kind, s, none)
		}
	}
}

// A literal of one kind is none of another.
func TestLitOfOtherKind(t *testing.T) {
	kinds := []int{api.NInt, api.NFloat, api.NString}
	for i, list := range [][]string{
		{"0", "1", "0x1F", "0o17", "0b1", "0xe1", "123456789"},
		{"0.", "1.0", ".5", "1e3", "0e0", "0x1p0", "0x.8p-1", "08.5"},
		{`""`, "``", `"1"`, "`1.5`"},
	} {
		for _, s := range list {
			for k, kind := range kinds {
				if got := lit(kind, s); (got != none) != (k == i) {
					t.Errorf("P10.1: Lit of kind %d, %s: %s", kind, s, got)
				}
			}
		}
	}
}

// The forms of numbers as the chapter of scan lists them.
var (
	wholeForm = regexp.MustCompile(`^(0|[1-9][0-9]*|0[xX][0-9a-fA-F]+|0[oO][0-7]+|0[bB][01]+)$`)
	floatForm = regexp.MustCompile(`^([0-9]+\.[0-9]*([eE][+-]?[0-9]+)?|[0-9]+[eE][+-]?[0-9]+|\.[0-9]+([eE][+-]?[0-9]+)?)$`)
	hexForm   = regexp.MustCompile(`^0[xX]([0-9a-fA-F]+\.?[0-9a-fA-F]*|\.[0-9a-fA-F]+)[pP][+-]?[0-9]+$`)
)

func wantNumber(is bool, kind int, s string) string {
	if !is {
		return none
	}
	r, ok := new(big.Rat).SetString(s)
	if !ok {
		return "the library knows no value"
	}
	return tellNumber(kind, r)
}

// All texts of up to five of these bytes: numbers of every form and whatever is nearly one.
func TestLitShortTexts(t *testing.T) {
	const alphabet = "0178aexXob.pE+-"
	texts := []string{""}
	for range 5 {
		for _, s := range texts {
			for i := range len(alphabet) {
				longer := s + alphabet[i:i+1]
				expectLit(t, api.NInt, longer, wantNumber(wholeForm.MatchString(longer), api.CInt, longer))
				expectLit(t, api.NFloat, longer, wantNumber(floatForm.MatchString(longer) || hexForm.MatchString(longer), api.CFloat, longer))
			}
			if t.Failed() {
				t.FailNow()
			}
		}
		var longer []string
		for _, s := range texts {
			for i := range len(alphabet) {
				longer = append(longer, s+alphabet[i:i+1])
			}
		}
		texts = longer
	}
}

// inBase is a whole number's literal.
func inBase(r *big.Rat, base int) string {
	prefix := map[int]string{2: "0b", 8: "0o", 10: "", 16: "0x"}[base]
	return prefix + r.Num().Text(base)
}

func TestLitIntBits(t *testing.T) {
	zeros := strings.Repeat("0", 20000)
	for _, base := range []int{2, 8, 10, 16} {
		for _, r := range []*big.Rat{power(api.MaxBits - 1), plus(power(api.MaxBits-1), 1), plus(most(), -1), most()} {
			expectLit(t, api.NInt, inBase(r, base), r.Num().String())
		}
		for _, r := range []*big.Rat{plus(most(), 1), plus(most(), 2), times(most(), rat("3")), power(9000), power(40000)} {
			expectLit(t, api.NInt, inBase(r, base), none)
		}
		if base == 10 {
			continue
		}
		// Zeros ahead say nothing, however many they are.
		prefix := inBase(most(), base)[:2]
		expectLit(t, api.NInt, prefix+zeros+most().Num().Text(base), most().Num().String())
		expectLit(t, api.NInt, prefix+zeros+plus(most(), 1).Num().Text(base), none)
		expectLit(t, api.NInt, prefix+zeros, "0")
	}
}

// Floats that are just as great as they may be, above the line and below it, and just beyond.
func TestLitFloatBits(t *testing.T) {
	decimal, hex := most().Num().String(), most().Num().Text(16)
	beyond, hexBeyond := plus(most(), 1).Num().String(), plus(most(), 1).Num().Text(16)
	zeros := func(n int) string { return strings.Repeat("0", n) }
	small := "float 1/" + power(api.MaxBits-1).Num().String()
	for _, c := range []struct{ s, want string }{
		{decimal + ".", "float " + decimal + "/1"},
		{decimal + ".000", "float " + decimal + "/1"},
		{decimal + "e0", "float " + decimal + "/1"},
		{"0000" + decimal + ".", "float " + decimal + "/1"},
		{decimal + zeros(999) + "e-999", "float " + decimal + "/1"},
		{beyond + ".", none},
		{beyond + "e0", none},
		{beyond + zeros(999) + "e-999", none},
		{"0x" + hex + "p0", "float " + decimal + "/1"},
		{"0x" + hex + "0.p-4", "float " + decimal + "/1"},
		{"0x" + hexBeyond + "p0", none},
		{"0x" + hexBeyond + "p-1", "float " + power(api.MaxBits-1).Num().String() + "/1"},
		// 10^2466 has 8192 bits, 10^2467 more.
		{"1" + zeros(1467) + "e999", "float 1" + zeros(2466) + "/1"},
		{"1" + zeros(1468) + "e999", none},
		{"0." + zeros(1466) + "1e-999", "float 1/1" + zeros(2466)},
		{"0." + zeros(1467) + "1e-999", none},
		{"." + zeros(2465) + "1", "float 1/1" + zeros(2466)},
		{"." + zeros(2465) + "1000", "float 1/1" + zeros(2466)},
		{"." + zeros(2465) + "3", "float 3/1" + zeros(2466)},
		{"." + zeros(2466) + "1", none},
		{"." + zeros(2466) + "1e1", "float 1/1" + zeros(2466)},
		{"." + zeros(2465) + "1e-1", none},
		{"." + zeros(3464) + "1e999", "float 1/1" + zeros(2466)},
		{"." + zeros(3465) + "1e999", none},
		// The least one is 2^-8191.
		{"0x." + zeros(1797) + "1p-999", "float 1/" + power(4*1798+999).Num().String()},
		{"0x." + zeros(1798) + "8p-998", small},
		{"0x." + zeros(1798) + "8000p-998", small},
		{"0x." + zeros(1798) + "8p-999", none},
		{"0x." + zeros(2047) + "2p0", small},
		{"0x." + zeros(2047) + "1p1", small},
		{"0x." + zeros(2047) + "1p0", none},
		{"0x" + zeros(500) + "." + zeros(2047) + "3p0", none},
		// The line's two sides are measured each for itself.
		{"0x1" + zeros(1000) + "." + zeros(1000) + "1p0", tellNumber(api.CFloat, new(big.Rat).Add(power(4000), power(-4004)))},
		{"0x1" + zeros(1050) + "." + zeros(1050) + "1p0", none},
		{"0x8" + zeros(1024) + "." + zeros(1022) + "1p0", tellNumber(api.CFloat, new(big.Rat).Add(power(4099), power(-4092)))},
		{"0x10" + zeros(1024) + "." + zeros(1022) + "1p0", none},
	} {
		expectLit(t, api.NFloat, c.s, c.want)
	}
}

// Texts of millions of bytes are no harder than short ones.
func TestLitLong(t *testing.T) {
	const n = 4 << 20
	zeros, nines := strings.Repeat("0", n), strings.Repeat("9", n)
	for _, c := range []struct{ s, want string }{
		{"1." + zeros, "float 1/1"},
		{zeros + ".5", "float 1/2"},
		{zeros + "." + zeros, "float 0/1"},
		{"." + zeros + "e-999", "float 0/1"},
		{"0x1." + zeros + "p-1", "float 1/2"},
		{"0x" + zeros + "1.8p1", "float 3/1"},
		{"1e" + zeros + "3", "float 1000/1"},
		{"1e-" + zeros + "3", "float 1/1000"},
		{"0x1p" + zeros + "3", "float 8/1"},
		{nines + ".", none},
		{nines + "e-999", none},
		{"." + nines, none},
		{"1" + zeros + ".0", none},
		{"1" + zeros + "e-999", none},
		{"." + zeros + "1", none},
		{"." + zeros + "1e999", none},
		{"0x1" + zeros + "p-999", none},
		{"0x." + zeros + "1p999", none},
		{"0x" + nines + "." + nines + "p0", none},
		{"1e" + nines, none},
	} {
		expectLit(t, api.NFloat, c.s, c.want)
	}
	for _, s := range []string{nines, "1" + zeros, "0x" + nines, "0b1" + zeros, "0o7" + zeros, zeros, "0x" + zeros + "x", strings.Repeat("1 ", n)} {
		expectLit(t, api.NInt, s, none)
	}
	expectLit(t, api.NInt, "0x"+zeros+"1F", "31")
	expectLit(t, api.NString, `"`+zeros+`"`, none)
	expectLit(t, api.NString, "`"+strings.Repeat("\r", n)+"a`", `"a"`)
}

func TestLitTextBytes(t *testing.T) {
	full := strings.Repeat("x", api.MaxText)
	accents := strings.Repeat("\u00e9", api.MaxText/2)
	for _, c := range []struct{ s, want string }{
		{`"` + full + `"`, full},
		{"`" + full + "`", full},
		{`"` + strings.Repeat(`\x41`, api.MaxText) + `"`, strings.Repeat("A", api.MaxText)},
		{`"` + strings.Repeat(`\n`, api.MaxText) + `"`, strings.Repeat("\n", api.MaxText)},
		{"`" + full + "\r\r`", full},
		{`"` + accents + `"`, accents},
		{`"` + strings.Repeat(`\u00e9`, api.MaxText/2) + `"`, accents},
	} {
		expectLit(t, api.NString, c.s, strconv.Quote(c.want))
	}
	for _, s := range []string{
		`"` + full + `x"`, "`" + full + "x`", `"` + full + `\n"`, `"` + accents + `x"`, `"` + strings.Repeat(`\u00e9`, api.MaxText/2) + `\x00"`, "`" + full + "\n`",
	} {
		expectLit(t, api.NString, s, none)
	}
}

func TestEq(t *testing.T) {
	all := samples()
	for i, a := range all {
		for j, b := range all {
			if got := constant.Eq(a.Const, b.Const); got != (i == j) {
				t.Errorf("P10.1: Eq(%s, %s) is %v", a, b, got)
			}
		}
	}
}

// A number is the same in whatever terms it is written, and a CInt is no CFloat.
func TestEqInOtherTerms(t *testing.T) {
	var numbers []sample
	for _, s := range samples() {
		if s.isNumber() {
			numbers = append(numbers, s)
		}
	}
	for i, a := range numbers {
		next := numbers[(i+1)%len(numbers)]
		for _, form := range forms(a.Const) {
			if !constant.Eq(a.Const, form) || !constant.Eq(form, a.Const) || !constant.Eq(form, scaled(form, big.NewInt(-77))) {
				t.Errorf("P10.1: %s is not Eq to itself in other terms", a)
			}
			if constant.Eq(form, next.Const) || constant.Eq(next.Const, form) {
				t.Errorf("P10.1: %s in other terms is Eq to %s", a, next)
			}
		}
	}
	two := number(api.CInt, rat("2"))
	if constant.Eq(two, number(api.CFloat, rat("2"))) || !constant.Eq(two, api.Const{Kind: api.CInt, Num: api.Rat{Num: fromWhole(big.NewInt(-6)), Den: fromWhole(big.NewInt(-3))}}) {
		t.Error("P10.1: Eq of 2 with 2.0 or with -6 / -3")
	}
	if !constant.Eq(api.Const{Kind: api.CInt}, number(api.CInt, rat("0"))) {
		t.Error("P10.1: the zero Rat is 0 as a number")
	}
}
