package ratio_test

import (
	"math"
	"math/big"
	"slices"
	"testing"

	"sterling/api"
	"sterling/bigint"
	"sterling/ratio"
)

// whole is a as the library's number.
func whole(a api.Big) *big.Int {
	n := new(big.Int)
	for i := len(a.Mag) - 1; i >= 0; i-- {
		n.Lsh(n, 32)
		n.Or(n, big.NewInt(int64(a.Mag[i])))
	}
	if a.Neg {
		n.Neg(n)
	}
	return n
}

// model is a as the library's fraction, by which the answers are judged; a Den of 0 counts as 1.
func model(a api.Rat) *big.Rat {
	den := whole(a.Den)
	if den.Sign() == 0 {
		den.SetInt64(1)
	}
	return new(big.Rat).SetFrac(whole(a.Num), den)
}

func isNormal(a api.Big) bool {
	if len(a.Mag) == 0 {
		return !a.Neg
	}
	return a.Mag[len(a.Mag)-1] != 0
}

// expect asks for a fraction in lowest terms, its Den above 0, that equals the model's.
func expect(t *testing.T, promise, what string, got api.Rat, want *big.Rat) {
	t.Helper()
	if !isNormal(got.Num) || !isNormal(got.Den) {
		t.Errorf("%s: %s: %v is not in normal form", promise, what, got)
	}
	if whole(got.Num).Cmp(want.Num()) != 0 || whole(got.Den).Cmp(want.Denom()) != 0 {
		t.Errorf("%s: %s: %s / %s, not %s", promise, what, whole(got.Num), whole(got.Den), want)
	}
}

// expectNone asks for 0 / 1 and false.
func expectNone(t *testing.T, promise, what string, got api.Rat, ok bool) {
	t.Helper()
	if ok {
		t.Errorf("%s: %s is true", promise, what)
	}
	expect(t, promise, what, got, new(big.Rat))
}

func of(num, den int64) api.Rat {
	return api.Rat{Num: bigint.Of(num), Den: bigint.Of(den)}
}

// bigs are numbers of several lengths: zeros at the end of Mag and zeros that are Neg among them.
func bigs() []api.Big {
	mags := [][]uint32{
		nil, {}, {0}, {0, 0}, {1}, {1, 0}, {2}, {6}, {6, 0, 0}, {35}, {math.MaxUint32}, {0, 1}, {0, 1 << 31},
		{math.MaxUint32, math.MaxUint32}, {0, 0, 6}, {0x3b9aca00, 7, 0}, {5, 0, math.MaxUint32},
	}
	var all []api.Big
	for _, mag := range mags {
		all = append(all, api.Big{Mag: mag}, api.Big{Neg: true, Mag: mag})
	}
	return all
}

// fractions are all pairs of bigs: denominators of 0 and below 0, and terms that are not lowest, among them.
func fractions() []api.Rat {
	var all []api.Rat
	for _, num := range bigs() {
		for _, den := range bigs() {
			all = append(all, api.Rat{Num: num, Den: den})
		}
	}
	return all
}

// pairs hold each fraction with some of the others.
func pairs() [][2]api.Rat {
	all := fractions()
	var list [][2]api.Rat
	for i, a := range all {
		for step := range 40 {
			list = append(list, [2]api.Rat{a, all[(i+step*step*29)%len(all)]})
		}
	}
	return list
}

func TestOf(t *testing.T) {
	for _, a := range fractions() {
		got, ok := ratio.Of(a.Num, a.Den)
		if whole(a.Den).Sign() == 0 {
			expectNone(t, "P2.1", "Of with a den of 0", got, ok)
			continue
		}
		if !ok {
			t.Errorf("P2.1: Of(%v, %v) is false", a.Num, a.Den)
		}
		expect(t, "P2.1", "Of", got, model(a))
	}
}

func TestWhole(t *testing.T) {
	for _, a := range bigs() {
		expect(t, "P2.1", "Whole", ratio.Whole(a), new(big.Rat).SetInt(whole(a)))
	}
}

func TestSumsAndProducts(t *testing.T) {
	for _, p := range pairs() {
		a, b := model(p[0]), model(p[1])
		expect(t, "P2.1", "Add", ratio.Add(p[0], p[1]), new(big.Rat).Add(a, b))
		expect(t, "P2.1", "Sub", ratio.Sub(p[0], p[1]), new(big.Rat).Sub(a, b))
		expect(t, "P2.1", "Mul", ratio.Mul(p[0], p[1]), new(big.Rat).Mul(a, b))
		if got := ratio.Cmp(p[0], p[1]); got != a.Cmp(b) {
			t.Errorf("P2.1: Cmp(%s, %s) is %d", a, b, got)
		}
	}
}

func TestQuo(t *testing.T) {
	for _, p := range pairs() {
		a, b := model(p[0]), model(p[1])
		got, ok := ratio.Quo(p[0], p[1])
		if b.Sign() == 0 {
			expectNone(t, "P2.1", "Quo by 0", got, ok)
			continue
		}
		if !ok {
			t.Errorf("P2.1: Quo(%s, %s) is false", a, b)
		}
		expect(t, "P2.1", "Quo", got, new(big.Rat).Quo(a, b))
	}
}

func TestNegIntText(t *testing.T) {
	for _, a := range fractions() {
		want := model(a)
		expect(t, "P2.1", "Neg", ratio.Neg(a), new(big.Rat).Neg(want))
		if got := ratio.Text(a); got != want.String() {
			t.Errorf("P2.1: Text(%v) is %s, not %s", a, got, want)
		}
		number, ok := ratio.Int(a)
		if ok != want.IsInt() {
			t.Errorf("P2.1: Int(%s) is %v", want, ok)
		}
		if ok && (!isNormal(number) || whole(number).Cmp(want.Num()) != 0) {
			t.Errorf("P2.1: Int(%s) is %v", want, number)
		}
		if !ok && (number.Neg || len(number.Mag) != 0) {
			t.Errorf("P2.1: Int(%s) is false, but %v beside it", want, number)
		}
	}
}

// The words of the chapter, one by one, without a model.
func TestNamedEdges(t *testing.T) {
	padded := api.Rat{Num: api.Big{Mag: []uint32{6, 0, 0}}, Den: api.Big{Neg: true, Mag: []uint32{4, 0}}}
	negZero := api.Big{Neg: true, Mag: []uint32{0, 0}}
	quotient, ok := ratio.Quo(of(1, 2), of(3, 0))
	for _, c := range []struct {
		what, want string
		got        api.Rat
	}{
		{"the zero value is 0 / 1", "0/1", api.Rat{}},
		{"a den of 0 counts as 1", "7/1", of(7, 0)},
		{"a den of 0 that is Neg counts as 1", "7/1", api.Rat{Num: bigint.Of(7), Den: negZero}},
		{"a den below 0 turns the sign", "-1/2", of(1, -2)},
		{"two signs are none", "1/2", of(-1, -2)},
		{"zeros at the end say nothing", "-3/2", padded},
		{"a zero that is Neg is zero", "0/1", api.Rat{Num: negZero, Den: bigint.Of(-5)}},
		{"zero over anything", "0/1", ratio.Mul(of(0, 9), of(3, 4))},
		{"a sum with dens of 0", "8/1", ratio.Add(of(7, 0), of(1, 0))},
		{"a divisor with a den of 0", "1/6", quotient},
		{"the negative of zero", "0/1", ratio.Neg(of(0, -3))},
	} {
		if got := ratio.Text(c.got); got != c.want {
			t.Errorf("P2.1: %s: %s, not %s", c.what, got, c.want)
		}
	}
	if !ok {
		t.Error("P2.1: a divisor with a den of 0 counts as whole")
	}
	if ratio.Cmp(of(3, 0), of(3, 1)) != 0 || ratio.Cmp(of(1, -3), of(-1, 2)) != 1 || ratio.Cmp(api.Rat{}, of(0, -7)) != 0 {
		t.Error("P2.1: Cmp")
	}
	if n, ok := ratio.Int(of(-12, -4)); !ok || !slices.Equal(n.Mag, []uint32{3}) || n.Neg {
		t.Error("P2.1: Int of -12 / -4")
	}
}
