package constant_test

import (
	"math/big"
	"strings"
	"testing"

	"sterling/api"
	"sterling/bigint"
	"sterling/constant"
)

// refused is a constant that may not be, and why.
type refused struct {
	why string
	api.Const
}

func of(num, den int64) api.Rat {
	return api.Rat{Num: bigint.Of(num), Den: bigint.Of(den)}
}

// ofUnknownKinds are as others, but for their kind.
func ofUnknownKinds() []refused {
	var all []refused
	for _, kind := range []int{api.CNone, -1, 5, 6, 7, 256 + api.CInt, 1<<32 + api.CBool, 1 << 62, -1 << 63} {
		all = append(all,
			refused{"an unknown kind", api.Const{Kind: kind}},
			refused{"an unknown kind, with a truth", api.Const{Kind: kind, Bool: true}},
			refused{"an unknown kind, with a text", api.Const{Kind: kind, Text: "a"}},
			refused{"an unknown kind, with a number", api.Const{Kind: kind, Num: of(1, 1)}},
		)
	}
	return all
}

// withOtherFields have fields of other kinds that are not zero.
func withOtherFields() []refused {
	var all []refused
	for _, kind := range []int{api.CBool, api.CString} {
		for _, num := range []api.Rat{
			of(0, 1), of(1, 1), of(1, 0), of(-1, 2), of(0, -1), of(0, 5),
			{Num: api.Big{Neg: true}}, {Den: api.Big{Neg: true}}, {Num: api.Big{Mag: []uint32{0}}}, {Den: api.Big{Mag: []uint32{0}}},
		} {
			all = append(all, refused{"a number beside a truth or a text", api.Const{Kind: kind, Num: num}})
		}
	}
	for _, kind := range []int{api.CBool, api.CInt, api.CFloat} {
		for _, s := range []string{"a", "1", "true", "\x00", " "} {
			all = append(all, refused{"a text beside another kind", api.Const{Kind: kind, Text: s, Num: numOf(kind)}})
		}
	}
	for _, kind := range []int{api.CString, api.CInt, api.CFloat} {
		all = append(all, refused{"a truth beside another kind", api.Const{Kind: kind, Bool: true, Num: numOf(kind)}})
	}
	return append(all,
		refused{"a truth beside a text", api.Const{Kind: api.CString, Bool: true, Text: "a"}},
		refused{"a text beside a truth", api.Const{Kind: api.CBool, Bool: true, Text: "true"}},
		refused{"a number beside a text", api.Const{Kind: api.CString, Text: "1", Num: of(1, 1)}},
		refused{"all of them", api.Const{Kind: api.CInt, Bool: true, Text: "1", Num: of(1, 1)}})
}

func numOf(kind int) api.Rat {
	if kind == api.CInt || kind == api.CFloat {
		return of(1, 1)
	}
	return api.Rat{}
}

func notWhole() []refused {
	var all []refused
	for _, num := range []api.Rat{of(1, 2), of(-1, 2), of(1, -2), of(7, 3), of(6, 4), of(255, 256), fromModel(power(-1)), fromModel(power(1 - api.MaxBits)), fromModel(rat("1e-300"))} {
		all = append(all, refused{"a CInt that is not whole", api.Const{Kind: api.CInt, Num: num}})
	}
	half := number(api.CInt, rat("1/2"))
	return append(all, refused{"a CInt that is not whole, in great terms", scaled(half, power(9000).Num())})
}

func tooGreat() []refused {
	all := []refused{
		{"a text of a byte too many", text(strings.Repeat("x", api.MaxText+1))},
		{"a text of very many bytes", text(strings.Repeat("x", 4<<20))},
		{"a CInt with a Den of 0 that counts as 1", api.Const{Kind: api.CInt, Num: api.Rat{Num: fromWhole(power(api.MaxBits).Num())}}},
	}
	for _, r := range []*big.Rat{plus(most(), 1), plus(most(), 2), minus(plus(most(), 1)), power(9000), minus(power(30000)), power(1 << 20), times(most(), most())} {
		all = append(all, refused{"too great a CInt", number(api.CInt, r)}, refused{"too great a CFloat", number(api.CFloat, r)})
	}
	for _, r := range []*big.Rat{
		power(-api.MaxBits), minus(power(-api.MaxBits)), power(-9000), power(-1 << 20), new(big.Rat).Inv(plus(most(), 2)),
		times(plus(most(), 2), rat("1/2")), times(rat("2/1"), new(big.Rat).Inv(plus(most(), 2))), times(plus(most(), 2), new(big.Rat).Inv(plus(most(), 4))),
	} {
		all = append(all, refused{"too great a Num or Den of a CFloat", number(api.CFloat, r)})
	}
	for _, c := range []api.Const{number(api.CInt, plus(most(), 1)), number(api.CFloat, plus(most(), 1)), number(api.CFloat, power(-api.MaxBits)), number(api.CFloat, times(plus(most(), 2), rat("1/2")))} {
		for _, factor := range []*big.Int{big.NewInt(-1), big.NewInt(6), power(100).Num(), most().Num()} {
			all = append(all, refused{"too great in lowest terms, and written in other ones", scaled(c, factor)})
		}
	}
	return all
}

func allRefused() []refused {
	return append(append(append(ofUnknownKinds(), withOtherFields()...), notWhole()...), tooGreat()...)
}

// partners are constants of each kind that may be, zeros among them.
func partners() []api.Const {
	return []api.Const{
		truth(false), truth(true), text(""), text("a"), number(api.CInt, rat("0")), number(api.CInt, rat("1")), number(api.CFloat, rat("0")), number(api.CFloat, rat("1/2")),
	}
}

func TestRefusedAlone(t *testing.T) {
	for _, c := range allRefused() {
		for _, op := range operators() {
			if got := tell(constant.Unary(op, c.Const)); got != none {
				t.Errorf("P10.3: %s: Unary %s: %s", c.why, brief(op), brief(got))
			}
		}
		for _, name := range names() {
			if got := tell(constant.Fits(c.Const, name)); got != none {
				t.Errorf("P10.3: %s: Fits %s: %s", c.why, brief(name), brief(got))
			}
			if got := tell(constant.Convert(c.Const, name)); got != none {
				t.Errorf("P10.3: %s: Convert %s: %s", c.why, brief(name), brief(got))
			}
		}
		if got := constant.Default(c.Const); got != "" {
			t.Errorf("P10.3: %s: Default: %s", c.why, got)
		}
	}
}

// What may not be is refused on either side, and beside itself.
func TestRefusedBeside(t *testing.T) {
	for _, c := range allRefused() {
		for _, b := range append(partners(), c.Const) {
			for _, op := range operators() {
				for _, got := range []string{tell(constant.Binary(op, c.Const, b)), tell(constant.Binary(op, b, c.Const))} {
					if got != none {
						t.Errorf("P10.3: %s: Binary %s: %s", c.why, brief(op), brief(got))
					}
				}
				held, ok := constant.Compare(op, c.Const, b)
				turned, turnedOk := constant.Compare(op, b, c.Const)
				if held || ok || turned || turnedOk {
					t.Errorf("P10.3: %s: Compare %s", c.why, brief(op))
				}
			}
			if constant.Eq(c.Const, b) || constant.Eq(b, c.Const) {
				t.Errorf("P10.3: %s: Eq", c.why)
			}
		}
	}
}

// A fraction in other terms is measured by the lowest ones, and calculated with as in these.
func TestOtherTerms(t *testing.T) {
	three, third := number(api.CInt, rat("3")), number(api.CFloat, rat("1/3"))
	for _, a := range samples() {
		if !a.isNumber() {
			continue
		}
		for _, form := range forms(a.Const) {
			if constant.Default(form) != constant.Default(a.Const) {
				t.Errorf("P10.3: Default of %s in other terms is %q", a, constant.Default(form))
			}
			for _, op := range []string{"+", "-", "^", "!"} {
				if got, want := tell(constant.Unary(op, form)), wantUnary(op, a); got != want {
					t.Errorf("P10.2: %s of %s in other terms: %s, not %s", op, a, brief(got), brief(want))
				}
			}
			for _, name := range basicNames() {
				if got, want := tell(constant.Fits(form, name)), wantFits(a, name); got != want {
					t.Errorf("P10.3: Fits of %s in other terms, %s: %s, not %s", a, name, brief(got), brief(want))
				}
			}
			for _, op := range []string{"+", "-", "*", "/", "%", "&", "|", "^", "&^"} {
				if a.isHard() && op != "*" {
					continue
				}
				for _, b := range []sample{{three, rat("3")}, {third, rat("1/3")}} {
					expectBinary(t, op, sample{form, a.r}, b)
					expectBinary(t, op, b, sample{form, a.r})
				}
			}
			for _, op := range []string{"==", "<", ">="} {
				for _, b := range []sample{{three, rat("3")}, {third, rat("1/3")}, a} {
					want, _ := wantCompare(op, a, b)
					if got, ok := constant.Compare(op, form, b.Const); got != want || !ok {
						t.Errorf("P10.2: Compare of %s in other terms %s %s: %v, %v", a, op, b, got, ok)
					}
				}
			}
		}
	}
}

// mixed is a number of that many words, whose terms no other number shares.
func mixed(size int, seed uint32) api.Big {
	a := api.Big{Mag: make([]uint32, size)}
	for i := range a.Mag {
		seed = seed*1664525 + 1013904223
		a.Mag[i] = seed | 1
	}
	return a
}

// Fractions of very long terms are measured, too, in a time that does not grow with the square of their length.
func TestLongTerms(t *testing.T) {
	const size = 1 << 13
	long, other := mixed(size, 1), mixed(size, 2)
	for _, num := range []api.Rat{
		{Num: long, Den: other}, {Num: other, Den: long}, {Num: long, Den: mixed(size-100, 3)}, {Num: long, Den: mixed(size/2, 4)}, {Num: mixed(size/2, 5), Den: long},
		{Num: long}, {Num: long, Den: bigint.Of(1)}, {Num: bigint.Of(1), Den: long}, {Num: bigint.Add(long, bigint.Of(1)), Den: long}, {Num: long, Den: bigint.Add(long, bigint.Of(2))},
	} {
		for _, kind := range []int{api.CInt, api.CFloat} {
			if got := constant.Default(api.Const{Kind: kind, Num: num}); got != "" {
				t.Errorf("P10.3: a fraction of long terms may be: %s", got)
			}
		}
	}
	for _, r := range []*big.Rat{rat("0"), rat("1"), rat("-1"), rat("7"), rat("1/3"), rat("-22/7"), most(), minus(most()), power(1 - api.MaxBits)} {
		c := number(api.CFloat, r)
		c.Num.Num, c.Num.Den = bigint.Mul(c.Num.Num, long), bigint.Mul(c.Num.Den, long)
		if got, want := tell(constant.Unary("+", c)), tellNumber(api.CFloat, r); got != want {
			t.Errorf("P10.3: a fraction in long terms: %s, not %s", brief(got), brief(want))
		}
		c.Kind = api.CInt
		want := none
		if r.IsInt() {
			want = tellNumber(api.CInt, minus(r))
		}
		if got := tell(constant.Unary("-", c)); got != want {
			t.Errorf("P10.3: a number in long terms: %s, not %s", brief(got), brief(want))
		}
	}
	zeros := api.Const{Kind: api.CInt, Num: api.Rat{Num: padded(bigint.Of(6), 1<<20), Den: padded(bigint.Of(-2), 1<<20)}}
	if got := tell(constant.Unary("+", zeros)); got != "-3" {
		t.Errorf("P10.3: zeros at the end say nothing: %s", brief(got))
	}
	zero := api.Const{Kind: api.CInt, Num: api.Rat{Num: api.Big{Neg: true, Mag: make([]uint32, 1<<20)}, Den: long}}
	if got := tell(constant.Unary("+", zero)); got != "0" {
		t.Errorf("P10.3: zero over a long number: %s", brief(got))
	}
}
