package bigint_test

import (
	"math"
	"math/big"
	"slices"
	"strings"
	"testing"

	"sterling/api"
	"sterling/bigint"
)

// model is a as the library's number, by which the answers are judged.
func model(a api.Big) *big.Int {
	n := new(big.Int)
	for i := len(a.Mag) - 1; i >= 0; i-- {
		n.Lsh(n, 32)
		n.Or(n, big.NewInt(int64(a.Mag[i])))
	}
	if a.Neg {
		n.Neg(n)
	}
	return n
}

func fromModel(n *big.Int) api.Big {
	a := api.Big{Neg: n.Sign() < 0}
	rest := new(big.Int).Abs(n)
	for rest.Sign() > 0 {
		a.Mag = append(a.Mag, uint32(rest.Uint64()))
		rest.Rsh(rest, 32)
	}
	return a
}

func decimal(t *testing.T, s string) api.Big {
	t.Helper()
	n, ok := new(big.Int).SetString(s, 10)
	if !ok {
		t.Fatalf("%q is no number", s)
	}
	return fromModel(n)
}

func isZeroValue(a api.Big) bool {
	return !a.Neg && len(a.Mag) == 0
}

func isNormal(a api.Big) bool {
	if len(a.Mag) == 0 {
		return !a.Neg
	}
	return a.Mag[len(a.Mag)-1] != 0
}

// expect asks for a number in normal form that equals the model's.
func expect(t *testing.T, promise, what string, got api.Big, want *big.Int) {
	t.Helper()
	if !isNormal(got) {
		t.Errorf("%s: %s: %v is not in normal form", promise, what, got)
	}
	if model(got).Cmp(want) != 0 {
		t.Errorf("%s: %s: %s, not %s", promise, what, model(got), want)
	}
}

// edges are numbers around the bounds of words, each also with zeros at the end of Mag, and zeros that are Neg.
func edges() []api.Big {
	mags := [][]uint32{
		nil, {}, {0}, {0, 0, 0}, {1}, {2}, {9}, {10}, {math.MaxUint32}, {1 << 31}, {1<<31 - 1},
		{0, 1}, {1, 1}, {math.MaxUint32, math.MaxUint32}, {math.MaxUint32, 1<<31 - 1}, {0, 1 << 31}, {1, 1 << 31},
		{0, 0, 1}, {math.MaxUint32, 0, 1}, {0, math.MaxUint32, math.MaxUint32}, {0, 0, 0, 1 << 31},
		{math.MaxUint32, math.MaxUint32, math.MaxUint32, math.MaxUint32}, {3, 0, 1 << 31}, {1, 0, 0, 1 << 29},
		{0, 0, 1 << 31, 1<<31 - 1}, {math.MaxUint32, 0, 1 << 31}, {0, math.MaxUint32 - 1, 1 << 31},
	}
	var all []api.Big
	for _, mag := range mags {
		padded := append(slices.Clone(mag), 0, 0)
		all = append(all, api.Big{Mag: mag}, api.Big{Neg: true, Mag: mag}, api.Big{Mag: padded}, api.Big{Neg: true, Mag: padded})
	}
	return all
}

// mixed are pairs of numbers of many lengths, words of only zeros and only ones among them.
func mixed() [][2]api.Big {
	state := uint32(7)
	word := func() uint32 {
		state = state*1664525 + 1013904223
		switch state >> 29 {
		case 1:
			return 0
		case 2:
			return math.MaxUint32
		case 3:
			return 1 << 31
		}
		return state
	}
	number := func(size int, neg bool) api.Big {
		a := api.Big{Neg: neg}
		for range size {
			a.Mag = append(a.Mag, word())
		}
		return a
	}
	var pairs [][2]api.Big
	for i := range 3000 {
		pairs = append(pairs, [2]api.Big{number(i%13, i%2 == 0), number(i%7, i%3 == 0)})
	}
	return pairs
}

func pairs() [][2]api.Big {
	all := mixed()
	for _, a := range edges() {
		for _, b := range edges() {
			all = append(all, [2]api.Big{a, b})
		}
	}
	return all
}

func TestOfAndInt64(t *testing.T) {
	for _, n := range []int64{0, 1, -1, math.MaxUint32, -math.MaxUint32, 1 << 32, -1 << 32, math.MaxInt64, math.MinInt64, math.MinInt64 + 1} {
		a := bigint.Of(n)
		expect(t, "P1.1", "Of", a, big.NewInt(n))
		if got, ok := bigint.Int64(a); got != n || !ok {
			t.Errorf("P1.1: Int64 of %d: %d, %v", n, got, ok)
		}
	}
}

func TestInt64Edges(t *testing.T) {
	cases := []struct {
		text string
		want int64
		fits bool
	}{
		{"9223372036854775807", math.MaxInt64, true},
		{"9223372036854775808", 0, false},
		{"-9223372036854775808", math.MinInt64, true},
		{"-9223372036854775809", 0, false},
		{"18446744073709551615", 0, false},
		{"-18446744073709551615", 0, false},
		{"18446744073709551616", 0, false},
		{"-18446744073709551616", 0, false},
		{"18446744073709551617", 0, false},
	}
	for _, c := range cases {
		a := decimal(t, c.text)
		a.Mag = append(a.Mag, 0, 0)
		if got, ok := bigint.Int64(a); got != c.want || ok != c.fits {
			t.Errorf("P1.1: Int64 of %s: %d, %v", c.text, got, ok)
		}
	}
	for _, a := range edges() {
		want := model(a)
		got, ok := bigint.Int64(a)
		if ok != want.IsInt64() || (ok && got != want.Int64()) || (!ok && got != 0) {
			t.Errorf("P1.1: Int64 of %s: %d, %v", want, got, ok)
		}
	}
}

func TestParse(t *testing.T) {
	texts := map[int][]string{
		2:  {"0", "1", "10", "0000", "0001", strings.Repeat("1", 31), strings.Repeat("1", 32), strings.Repeat("1", 33), "1" + strings.Repeat("0", 200)},
		8:  {"0", "7", "01234567", strings.Repeat("7", 10), strings.Repeat("7", 11), strings.Repeat("7", 64), "4" + strings.Repeat("0", 43)},
		10: {"0", "9", "00", "007", "999999999", "1000000000", "4294967295", "4294967296", "18446744073709551615", "18446744073709551616", strings.Repeat("9", 400), strings.Repeat("0", 400) + "5"},
		16: {"0", "f", "F", "aF", "0123456789abcdefABCDEF", "ffffffff", "100000000", "fffffffffffffffff", strings.Repeat("0", 40) + "a"},
	}
	for base, list := range texts {
		for _, s := range list {
			want, _ := new(big.Int).SetString(s, base)
			got, ok := bigint.Parse(s, base)
			if !ok {
				t.Errorf("P1.1: Parse(%q, %d) is refused", s, base)
			}
			expect(t, "P1.1", s, got, want)
		}
	}
}

func TestParseEveryDigit(t *testing.T) {
	for _, base := range []int{2, 8, 10, 16} {
		for c := range 256 {
			value := strings.IndexByte("0123456789abcdef", byte(c))
			if 'A' <= c && c <= 'F' {
				value = c - 'A' + 10
			}
			isDigit := 0 <= value && value < base
			for _, s := range []string{string([]byte{byte(c)}), "1" + string([]byte{byte(c)}), string([]byte{byte(c)}) + strings.Repeat("1", 40)} {
				got, ok := bigint.Parse(s, base)
				if ok != isDigit || !ok && !isZeroValue(got) {
					t.Errorf("P1.1: Parse(%q, %d): %v, %v", s, base, got, ok)
				}
			}
		}
	}
}

func TestParseRefuses(t *testing.T) {
	cases := []struct {
		text string
		base int
	}{
		{"", 10}, {"", 2}, {"", 8}, {"", 16}, {"", 3}, {"-1", 10}, {"+1", 10}, {" 1", 10}, {"1 ", 10}, {"1_0", 10},
		{"0x1", 16}, {"0b1", 2}, {"1e3", 10}, {"1.0", 10}, {"2", 2}, {"8", 8}, {"a", 10}, {"g", 16}, {"\xff", 16}, {"١", 10},
		{"1", 0}, {"1", 1}, {"1", 3}, {"1", 7}, {"1", 9}, {"1", 11}, {"1", 15}, {"1", 17}, {"1", 32}, {"1", 36},
		{"1", -2}, {"1", -10}, {"1", -16}, {"1", math.MaxInt}, {"1", math.MinInt}, {"1", 1<<32 + 10},
		{strings.Repeat("1", 100) + "x", 10},
	}
	for _, c := range cases {
		if got, ok := bigint.Parse(c.text, c.base); ok || !isZeroValue(got) {
			t.Errorf("P1.1: Parse(%q, %d): %v, %v", c.text, c.base, got, ok)
		}
	}
}

func TestText(t *testing.T) {
	for _, s := range []string{"0", "1", "-1", "10", "999999999", "1000000000", "1000000001", "-1000000000", "4294967296", "1000000000000000000", "-1000000000000000000000000000", "18446744073709551616", "-" + strings.Repeat("123456789", 50)} {
		if got := bigint.Text(decimal(t, s)); got != s {
			t.Errorf("P1.1: Text: %s, not %s", got, s)
		}
	}
	for _, a := range edges() {
		if got, want := bigint.Text(a), model(a).String(); got != want {
			t.Errorf("P1.1: Text: %s, not %s", got, want)
		}
	}
	for _, p := range mixed() {
		if got, want := bigint.Text(p[0]), model(p[0]).String(); got != want {
			t.Fatalf("P1.1: Text: %s, not %s", got, want)
		}
	}
}

func TestLongText(t *testing.T) {
	s := strings.Repeat("9", 20000)
	a, ok := bigint.Parse(s, 10)
	if !ok || bigint.Text(a) != s {
		t.Error("P1.1: a long number does not come back")
	}
}

func TestCmp(t *testing.T) {
	for _, p := range pairs() {
		a, b := p[0], p[1]
		if got, want := bigint.Cmp(a, b), model(a).Cmp(model(b)); got != want {
			t.Fatalf("P1.2: Cmp(%s, %s): %d, not %d", model(a), model(b), got, want)
		}
	}
}

func TestNegAndBits(t *testing.T) {
	for _, a := range edges() {
		n := model(a)
		expect(t, "P1.2", "Neg", bigint.Neg(a), new(big.Int).Neg(n))
		if got, want := bigint.Bits(a), n.BitLen(); got != want {
			t.Errorf("P1.2: Bits of %s: %d, not %d", n, got, want)
		}
	}
	for i := range 100 {
		a := fromModel(new(big.Int).Lsh(big.NewInt(1), uint(i)))
		if got := bigint.Bits(a); got != i+1 {
			t.Errorf("P1.2: Bits of 2^%d: %d", i, got)
		}
	}
}

func TestSumsAndProducts(t *testing.T) {
	for _, p := range pairs() {
		a, b := p[0], p[1]
		x, y := model(a), model(b)
		expect(t, "P1.2", "Add", bigint.Add(a, b), new(big.Int).Add(x, y))
		expect(t, "P1.2", "Sub", bigint.Sub(a, b), new(big.Int).Sub(x, y))
		expect(t, "P1.2", "Mul", bigint.Mul(a, b), new(big.Int).Mul(x, y))
		if t.Failed() {
			t.Fatalf("with %s and %s", x, y)
		}
	}
}

func TestQuo(t *testing.T) {
	for _, p := range pairs() {
		a, b := p[0], p[1]
		x, y := model(a), model(b)
		quotient, rest, ok := bigint.Quo(a, b)
		if y.Sign() == 0 {
			if ok || !isZeroValue(quotient) || !isZeroValue(rest) {
				t.Fatalf("P1.2: %s / 0: %v, %v, %v", x, quotient, rest, ok)
			}
			continue
		}
		wantQuotient, wantRest := new(big.Int).QuoRem(x, y, new(big.Int))
		expect(t, "P1.2", "quotient", quotient, wantQuotient)
		expect(t, "P1.2", "remainder", rest, wantRest)
		if !ok || t.Failed() {
			t.Fatalf("P1.2: Quo of %s and %s, %v", x, y, ok)
		}
	}
}

func TestQuoSigns(t *testing.T) {
	cases := [][4]int64{{7, 2, 3, 1}, {-7, 2, -3, -1}, {7, -2, -3, 1}, {-7, -2, 3, -1}, {1, 2, 0, 1}, {-1, 2, 0, -1}, {6, 3, 2, 0}, {-6, 3, -2, 0}, {0, -5, 0, 0}}
	for _, c := range cases {
		quotient, rest, ok := bigint.Quo(bigint.Of(c[0]), bigint.Of(c[1]))
		expect(t, "P1.2", "quotient", quotient, big.NewInt(c[2]))
		expect(t, "P1.2", "remainder", rest, big.NewInt(c[3]))
		if !ok {
			t.Errorf("P1.2: Quo of %d and %d is refused", c[0], c[1])
		}
	}
}

// Here a first guess at a word of the quotient is too great even behind the test by the next word.
func TestQuoWithGuessTooGreat(t *testing.T) {
	a := api.Big{Mag: []uint32{3, 0, 1 << 31}}
	b := api.Big{Mag: []uint32{1, 0, 1 << 29}}
	c := api.Big{Mag: []uint32{0, 0, 1 << 31, 1<<31 - 1}}
	d := api.Big{Mag: []uint32{1, 0, 1 << 31}}
	for _, p := range [][2]api.Big{{a, b}, {c, d}} {
		x, y := model(p[0]), model(p[1])
		wantQuotient, wantRest := new(big.Int).QuoRem(x, y, new(big.Int))
		quotient, rest, _ := bigint.Quo(p[0], p[1])
		expect(t, "P1.2", "quotient", quotient, wantQuotient)
		expect(t, "P1.2", "remainder", rest, wantRest)
	}
}

func TestBitwise(t *testing.T) {
	for _, p := range pairs() {
		a, b := p[0], p[1]
		x, y := model(a), model(b)
		wants := map[string]*big.Int{
			"&":  new(big.Int).And(x, y),
			"|":  new(big.Int).Or(x, y),
			"^":  new(big.Int).Xor(x, y),
			"&^": new(big.Int).AndNot(x, y),
		}
		for op, want := range wants {
			got, ok := bigint.Bitwise(op, a, b)
			expect(t, "P1.3", op, got, want)
			if !ok || t.Failed() {
				t.Fatalf("P1.3: %s %s %s: %v", x, op, y, ok)
			}
		}
	}
}

func TestBitwiseSmall(t *testing.T) {
	for a := int64(-9); a <= 9; a++ {
		for b := int64(-9); b <= 9; b++ {
			for op, want := range map[string]int64{"&": a & b, "|": a | b, "^": a ^ b, "&^": a &^ b} {
				got, ok := bigint.Bitwise(op, bigint.Of(a), bigint.Of(b))
				expect(t, "P1.3", op, got, big.NewInt(want))
				if !ok {
					t.Errorf("P1.3: %d %s %d is refused", a, op, b)
				}
			}
		}
	}
}

func TestBitwiseRefuses(t *testing.T) {
	for _, op := range []string{"", "+", "-", "*", "/", "%", "&&", "||", "^^", "& ", " &", "&=", "&^=", "^&", "~", "!", "<<", ">>", "and", "\x00", "\xff"} {
		for _, a := range edges() {
			if got, ok := bigint.Bitwise(op, a, a); ok || !isZeroValue(got) {
				t.Errorf("P1.3: %q: %v, %v", op, got, ok)
			}
		}
	}
}
