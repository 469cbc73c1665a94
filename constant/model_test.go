package constant_test

import (
	"fmt"
	"math/big"
	"slices"
	"strconv"
	"strings"

	"sterling/api"
)

// none is what tell says of a zero Const and false.
const none = "none"

// whole is a as the library's number.
func whole(a api.Big) *big.Int {
	n := new(big.Int)
	for i := len(a.Mag) - 1; i >= 0; i-- {
		n.Lsh(n, 32)
		n.Or(n, big.NewInt(int64(a.Mag[i])))
	}
	if a.Neg {
		n.Neg(n)
	}
	return n
}

func fromWhole(n *big.Int) api.Big {
	a := api.Big{Neg: n.Sign() < 0}
	for _, word := range new(big.Int).Abs(n).Bits() {
		a.Mag = append(a.Mag, uint32(word), uint32(uint64(word)>>32))
	}
	for len(a.Mag) > 0 && a.Mag[len(a.Mag)-1] == 0 {
		a.Mag = a.Mag[:len(a.Mag)-1]
	}
	return a
}

func fromModel(r *big.Rat) api.Rat {
	return api.Rat{Num: fromWhole(r.Num()), Den: fromWhole(r.Denom())}
}

// power is 2^count; where count is below 0, a fraction.
func power(count int) *big.Rat {
	n := new(big.Int).Lsh(big.NewInt(1), uint(max(count, -count)))
	if count < 0 {
		return new(big.Rat).SetFrac(big.NewInt(1), n)
	}
	return new(big.Rat).SetInt(n)
}

func rat(text string) *big.Rat {
	r, ok := new(big.Rat).SetString(text)
	if !ok {
		panic("no fraction: " + text)
	}
	return r
}

func plus(a *big.Rat, n int64) *big.Rat {
	return new(big.Rat).Add(a, big.NewRat(n, 1))
}

func times(a, b *big.Rat) *big.Rat {
	return new(big.Rat).Mul(a, b)
}

func minus(a *big.Rat) *big.Rat {
	return new(big.Rat).Neg(a)
}

// most is the greatest number that may be.
func most() *big.Rat {
	return plus(power(api.MaxBits), -1)
}

func truth(b bool) api.Const {
	return api.Const{Kind: api.CBool, Bool: b}
}

func text(s string) api.Const {
	return api.Const{Kind: api.CString, Text: s}
}

func number(kind int, r *big.Rat) api.Const {
	return api.Const{Kind: kind, Num: fromModel(r)}
}

func isNormal(a api.Big) bool {
	if len(a.Mag) == 0 {
		return !a.Neg
	}
	return a.Mag[len(a.Mag)-1] != 0
}

func isUnset(r api.Rat) bool {
	return len(r.Num.Mag) == 0 && len(r.Den.Mag) == 0 && !r.Num.Neg && !r.Den.Neg
}

// isLowest tells whether r is in lowest terms, its Den above 0, its numbers in normal form.
func isLowest(r api.Rat) bool {
	num, den := whole(r.Num), whole(r.Den)
	if !isNormal(r.Num) || !isNormal(r.Den) || den.Sign() <= 0 {
		return false
	}
	return new(big.Int).GCD(nil, nil, new(big.Int).Abs(num), den).Cmp(big.NewInt(1)) == 0
}

// tell is what a call answered, as a text; one that no other is like, if a field is not as it must be.
func tell(c api.Const, ok bool) string {
	blank := !c.Bool && c.Text == "" && isUnset(c.Num)
	switch {
	case !ok && c.Kind == api.CNone && blank:
		return none
	case !ok:
		return fmt.Sprintf("false, but beside it %+v", c)
	case c.Kind == api.CBool && c.Text == "" && isUnset(c.Num):
		return strconv.FormatBool(c.Bool)
	case c.Kind == api.CString && !c.Bool && isUnset(c.Num):
		return strconv.Quote(c.Text)
	case c.Kind == api.CInt && !c.Bool && c.Text == "" && isLowest(c.Num) && whole(c.Num.Den).IsInt64():
		return whole(c.Num.Num).String() + ending(whole(c.Num.Den))
	case c.Kind == api.CFloat && !c.Bool && c.Text == "" && isLowest(c.Num):
		return "float " + whole(c.Num.Num).String() + "/" + whole(c.Num.Den).String()
	}
	return fmt.Sprintf("malformed: %+v", c)
}

// ending is what tells a whole number from a fraction that stands in its place.
func ending(den *big.Int) string {
	if den.Cmp(big.NewInt(1)) == 0 {
		return ""
	}
	return "/" + den.String()
}

// tellText is tell of a string, if it may be.
func tellText(s string) string {
	if len(s) > api.MaxText {
		return none
	}
	return strconv.Quote(s)
}

// tellNumber is tell of a number of that kind, if it may be.
func tellNumber(kind int, r *big.Rat) string {
	switch {
	case r.Num().BitLen() > api.MaxBits, r.Denom().BitLen() > api.MaxBits:
		return none
	case kind == api.CInt:
		return r.Num().String() + ending(r.Denom())
	}
	return "float " + r.Num().String() + "/" + r.Denom().String()
}

// brief is s, its middle left out where it is long.
func brief(s string) string {
	const side = 60
	if len(s) <= 2*side {
		return s
	}
	return s[:side] + " .. (" + strconv.Itoa(len(s)) + " bytes) .. " + s[len(s)-side:]
}

// sample is a constant that may be, and what is known of it.
type sample struct {
	api.Const
	r *big.Rat
}

func (s sample) String() string {
	return brief(tell(s.Const, true))
}

func (s sample) isNumber() bool {
	return s.Kind == api.CInt || s.Kind == api.CFloat
}

// wholes are whole numbers of both signs, the ends of all types and the greatest that may be among them.
func wholes() []*big.Rat {
	above := []*big.Rat{
		rat("1"), rat("2"), rat("3"), rat("5"), rat("6"), rat("7"), rat("12"), rat("127"), rat("128"), rat("255"), rat("256"),
		rat("4294967295"), rat("4294967296"), rat("0xf0f0f0f0f0f0f0f0f"), plus(power(63), -1), power(63), plus(power(64), -1), power(64),
		power(128), times(rat("3"), power(1023)), power(4096), power(api.MaxBits - 1), most(),
	}
	all := []*big.Rat{rat("0")}
	for _, r := range above {
		all = append(all, r, minus(r))
	}
	return all
}

// parts are fractions that are not whole, of both signs, the greatest and least that may be among them.
func parts() []*big.Rat {
	above := []*big.Rat{
		rat("1/2"), rat("1/3"), rat("5/2"), rat("7/3"), rat("1/10"), rat("255/2"), rat("257/256"), times(rat("1/3"), power(200)),
		times(rat("5/7"), power(-1000)), power(1 - api.MaxBits), new(big.Rat).Inv(most()), times(most(), power(1-api.MaxBits)),
		times(plus(most(), -1), new(big.Rat).Inv(most())),
	}
	var all []*big.Rat
	for _, r := range above {
		all = append(all, r, minus(r))
	}
	return all
}

// samples are constants of all kinds, no two the same.
func samples() []sample {
	all := []sample{{Const: truth(false)}, {Const: truth(true)}}
	for _, s := range []string{
		"", "a", "b", "ab", "aB", "B", "a\x00", "\x00", "\x80", "\xff", "\u00e9", "\uffff", "1", "true", strings.Repeat("x", 40000),
		strings.Repeat("x", api.MaxText),
	} {
		all = append(all, sample{Const: text(s)})
	}
	for _, r := range wholes() {
		all = append(all, sample{number(api.CInt, r), r}, sample{number(api.CFloat, r), r})
	}
	for _, r := range parts() {
		all = append(all, sample{number(api.CFloat, r), r})
	}
	return all
}

// padded is a with zeros at the end that say nothing.
func padded(a api.Big, count int) api.Big {
	return api.Big{Neg: a.Neg, Mag: append(slices.Clone(a.Mag), make([]uint32, count)...)}
}

// scaled is c with its fraction written in terms that are factor times as great, and zeros at their ends.
func scaled(c api.Const, factor *big.Int) api.Const {
	den := whole(c.Num.Den)
	if den.Sign() == 0 {
		den.SetInt64(1)
	}
	num := new(big.Int).Mul(whole(c.Num.Num), factor)
	den.Mul(den, factor)
	c.Num = api.Rat{Num: padded(fromWhole(num), 3), Den: padded(fromWhole(den), 1)}
	return c
}

// forms are other ways to write the number c: other terms, signs on both, zeros at the ends, an empty Den that counts
// as 1, a zero that is Neg.
func forms(c api.Const) []api.Const {
	var all []api.Const
	for _, factor := range []*big.Int{big.NewInt(1), big.NewInt(-1), big.NewInt(60), big.NewInt(-1 << 40), power(9000).Num(), minus(most()).Num()} {
		all = append(all, scaled(c, factor))
	}
	if whole(c.Num.Den).IsInt64() && whole(c.Num.Den).Int64() == 1 {
		all = append(all, api.Const{Kind: c.Kind, Num: api.Rat{Num: c.Num.Num}})
		all = append(all, api.Const{Kind: c.Kind, Num: api.Rat{Num: c.Num.Num, Den: api.Big{Neg: true, Mag: []uint32{0, 0}}}})
	}
	if whole(c.Num.Num).Sign() == 0 {
		all = append(all, api.Const{Kind: c.Kind, Num: api.Rat{Num: api.Big{Neg: true}, Den: c.Num.Den}})
		all = append(all, api.Const{Kind: c.Kind, Num: api.Rat{Num: api.Big{Neg: true, Mag: []uint32{0}}, Den: fromWhole(power(20000).Num())}})
	}
	return all
}
