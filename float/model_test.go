package float_test

import (
	"math"
	"math/big"
	"slices"
	"testing"

	"sterling/api"
	"sterling/bigint"
)

// whole is a as the library's number.
func whole(a api.Big) *big.Int {
	n := new(big.Int)
	for i := len(a.Mag) - 1; i >= 0; i-- {
		n.Lsh(n, 32)
		n.Or(n, big.NewInt(int64(a.Mag[i])))
	}
	if a.Neg {
		n.Neg(n)
	}
	return n
}

func fromWhole(n *big.Int) api.Big {
	a := api.Big{Neg: n.Sign() < 0}
	rest := new(big.Int).Abs(n)
	for rest.Sign() > 0 {
		a.Mag = append(a.Mag, uint32(rest.Uint64()))
		rest.Rsh(rest, 32)
	}
	return a
}

// model is a as the library's fraction, by which the answers are judged; a Den of 0 counts as 1.
func model(a api.Rat) *big.Rat {
	den := whole(a.Den)
	if den.Sign() == 0 {
		den.SetInt64(1)
	}
	return new(big.Rat).SetFrac(whole(a.Num), den)
}

func fromModel(r *big.Rat) api.Rat {
	return api.Rat{Num: fromWhole(r.Num()), Den: fromWhole(r.Denom())}
}

// power is 2^count.
func power(count int) *big.Rat {
	n := new(big.Int).Lsh(big.NewInt(1), uint(max(count, -count)))
	if count < 0 {
		return new(big.Rat).SetFrac(big.NewInt(1), n)
	}
	return new(big.Rat).SetInt(n)
}

func of(num, den int64) api.Rat {
	return api.Rat{Num: bigint.Of(num), Den: bigint.Of(den)}
}

func isNormal(a api.Big) bool {
	if len(a.Mag) == 0 {
		return !a.Neg
	}
	return a.Mag[len(a.Mag)-1] != 0
}

// expectFraction asks for a fraction in lowest terms, its Den above 0, that equals the model's.
func expectFraction(t *testing.T, what string, got api.Rat, want *big.Rat) {
	t.Helper()
	if !isNormal(got.Num) || !isNormal(got.Den) {
		t.Errorf("P3.2: %s: %v is not in normal form", what, got)
	}
	if whole(got.Num).Cmp(want.Num()) != 0 || whole(got.Den).Cmp(want.Denom()) != 0 {
		t.Errorf("P3.2: %s: %s / %s, not %s", what, whole(got.Num), whole(got.Den), want)
	}
}

// ascending are floats from -Inf to +Inf, both zeros among them, all different.
func ascending() []float64 {
	above := []float64{
		0, 0x1p-1074, 0x1p-1073, 0x3p-1074, 0x1p-1050, 0x1.fffffffffffffp-1023, 0x1p-1022 - 0x1p-1074, 0x1p-1022, 0x1p-1022 + 0x1p-1074,
		0x1p-1021 - 0x1p-1074, 0x1p-1021, 0x1p-1021 + 0x1p-1073, 0x1p-300, 0x1p-149, 0x1p-126, 1e-9, 0.1, 1.0 / 3, 0x1.fffffffffffffp-2, 0.5,
		0x1.fffffffffffffp-1, 1, 0x1.0000000000001p0, 1.5, 2, 2.75, 3, 0x1p24 + 1, 0x1p31, 0x1p32, 0x1.fffffffffffffp51, 0x1p52, 0x1p52 + 1,
		0x1p53 - 1, 0x1p53, 0x1p53 + 2, 0x1.fffffffffffffp62, 0x1p63, 0x1.0000000000001p63, 0x1.fffffffffffffp63, 0x1p64, 0x1p65, 1e30,
		math.MaxFloat32, 0x1p128, 1e300, 0x1p1023, 0x1.ffffffffffffep1023, math.MaxFloat64, math.Inf(1),
	}
	slices.Sort(above)
	above = slices.Compact(above)
	var all []float64
	for i := len(above) - 1; i >= 0; i-- {
		all = append(all, math.Copysign(above[i], -1))
	}
	return append(all, above...)
}

// nans are NaNs of any bits: quiet and not, with a sign and without.
func nans() []float64 {
	var all []float64
	for _, bits := range []uint64{
		0x7ff0000000000001, 0x7ff7ffffffffffff, 0x7ff8000000000000, 0x7ff8000000000001, 0x7fffffffffffffff,
		0xfff0000000000001, 0xfff7ffffffffffff, 0xfff8000000000000, 0xffffffffffffffff, 0x7ff0000100000000,
	} {
		all = append(all, math.Float64frombits(bits))
	}
	return all
}

func finite() []float64 {
	return slices.DeleteFunc(ascending(), func(f float64) bool { return math.IsInf(f, 0) })
}
