package float_test

import (
	"math"
	"math/big"
	"testing"

	"sterling/api"
	"sterling/bigint"
	"sterling/float"
	"sterling/ratio"
)

func TestExact(t *testing.T) {
	for _, f := range finite() {
		got, ok := float.Exact(f)
		if !ok {
			t.Errorf("P3.2: Exact(%x) is false", f)
		}
		expectFraction(t, "Exact", got, new(big.Rat).SetFloat64(f))
		if back := float.Round64(got); back != f {
			t.Errorf("P3.2: Exact(%x) is rounded to %x", f, back)
		}
	}
}

func TestExactOfAllExponents(t *testing.T) {
	for exponent := range uint64(0x7ff) {
		for _, fraction := range []uint64{0, 1, 1 << 20, 1 << 51, 1<<52 - 1, 0x5555555555555} {
			f := math.Float64frombits(exponent<<52 | fraction)
			got, ok := float.Exact(-f)
			if !ok {
				t.Errorf("P3.2: Exact(%x) is false", -f)
			}
			expectFraction(t, "Exact", got, new(big.Rat).SetFloat64(-f))
		}
	}
}

func TestExactOfNone(t *testing.T) {
	for _, f := range append(nans(), math.Inf(1), math.Inf(-1)) {
		got, ok := float.Exact(f)
		if ok {
			t.Errorf("P3.2: Exact(%x) is true", math.Float64bits(f))
		}
		expectFraction(t, "Exact of none", got, new(big.Rat))
	}
}

func scribble(a api.Big) {
	room := a.Mag[:cap(a.Mag)]
	for i := range room {
		room[i] = 0x5a5a5a5a
	}
}

func TestExactIsNewMemory(t *testing.T) {
	for _, f := range []float64{0, 1, -0.1, 0x1p1023, 0x1p-1074, math.Inf(1), math.NaN()} {
		first, _ := float.Exact(f)
		want := model(first)
		second, _ := float.Exact(f)
		scribble(first.Num)
		if whole(first.Den).Cmp(want.Denom()) != 0 {
			t.Errorf("P0.3: the numbers of Exact(%x) share memory", f)
		}
		scribble(first.Den)
		third, _ := float.Exact(f)
		if model(second).Cmp(want) != 0 || model(third).Cmp(want) != 0 {
			t.Errorf("P0.3: what Exact(%x) answers is kept", f)
		}
	}
}

func TestOrder(t *testing.T) {
	numbers := ascending()
	all := append(ascending(), nans()...)
	// All NaNs have one place.
	place := func(i int) int { return min(i, len(numbers)) }
	for i, a := range all {
		for j, b := range all {
			if got := float.Same(a, b); got != (place(i) == place(j)) {
				t.Errorf("P3.2: Same(%x, %x) is %v", math.Float64bits(a), math.Float64bits(b), got)
			}
			if got := float.Less(a, b); got != (place(i) < place(j)) {
				t.Errorf("P3.2: Less(%x, %x) is %v", math.Float64bits(a), math.Float64bits(b), got)
			}
		}
	}
}

func TestZerosInOrder(t *testing.T) {
	zero, negZero := 0.0, math.Copysign(0, -1)
	if float.Same(zero, negZero) || float.Same(negZero, zero) || !float.Same(negZero, negZero) {
		t.Error("P3.2: Same of zeros")
	}
	if !float.Less(negZero, zero) || float.Less(zero, negZero) || !float.Less(-0x1p-1074, negZero) || !float.Less(zero, 0x1p-1074) {
		t.Error("P3.2: Less of zeros")
	}
}

// cut is f's whole part by the library's numbers; f is finite.
func cut(f float64) *big.Int {
	r := new(big.Rat).SetFloat64(f)
	return new(big.Int).Quo(r.Num(), r.Denom())
}

func TestToInt(t *testing.T) {
	ends := []int64{
		math.MinInt64, math.MinInt64 + 1, -1 << 53, -1 << 31, -3, -2, -1, 0, 1, 2, 3, 1 << 31, 1 << 52, 1<<52 + 1, 1 << 53, 1<<53 + 2,
		math.MaxInt64 - 1023, math.MaxInt64 - 1022, math.MaxInt64 - 1, math.MaxInt64,
	}
	for _, f := range finite() {
		want := cut(f)
		for _, lo := range ends {
			for _, hi := range ends {
				inside := want.Cmp(big.NewInt(lo)) >= 0 && want.Cmp(big.NewInt(hi)) <= 0
				got, ok := float.ToInt(f, lo, hi)
				if ok != inside || ok && got != want.Int64() || !ok && got != 0 {
					t.Errorf("P3.3: ToInt(%x, %d, %d): %d, %v", f, lo, hi, got, ok)
				}
			}
		}
	}
}

func TestToIntNamedEdges(t *testing.T) {
	const lowest, highest = math.MinInt64, math.MaxInt64
	for _, c := range []struct {
		f      float64
		lo, hi int64
		want   int64
		ok     bool
	}{
		{2.9, -5, 5, 2, true},
		{-2.9, -5, 5, -2, true},
		{5.9, -5, 5, 5, true},
		{-5.9, -5, 5, -5, true},
		{6, -5, 5, 0, false},
		{-6, -5, 5, 0, false},
		{0.9, 0, 0, 0, true},
		{-0.9, 0, 0, 0, true},
		{math.Copysign(0, -1), 0, 0, 0, true},
		{0x1p-1074, 0, 0, 0, true},
		{-0x1p-1074, 0, 0, 0, true},
		{0, 1, 5, 0, false},
		{0x1.fffffffffffffp62, lowest, highest, highest - 1023, true},
		{0x1p63, lowest, highest, 0, false},
		{-0x1p63, lowest, highest, lowest, true},
		{-0x1p63, lowest, lowest, lowest, true},
		{-0x1p63, lowest + 1, highest, 0, false},
		{-0x1.0000000000001p63, lowest, highest, 0, false},
		{0x1p64, lowest, highest, 0, false},
		{-0x1p64, lowest, highest, 0, false},
		{0x1.0000000000001p64, lowest, highest, 0, false},
		{0x1p127, lowest, highest, 0, false},
		{math.MaxFloat64, lowest, highest, 0, false},
		{-math.MaxFloat64, lowest, highest, 0, false},
		{255.99, 0, 255, 255, true},
		{256, 0, 255, 0, false},
		{3, 4, 2, 0, false},
		{3, 3, 2, 0, false},
		{3, 4, 3, 0, false},
		{3, highest, lowest, 0, false},
		{0, highest, lowest, 0, false},
	} {
		if got, ok := float.ToInt(c.f, c.lo, c.hi); got != c.want || ok != c.ok {
			t.Errorf("P3.3: ToInt(%x, %d, %d): %d, %v", c.f, c.lo, c.hi, got, ok)
		}
	}
	for _, f := range append(nans(), math.Inf(1), math.Inf(-1)) {
		if got, ok := float.ToInt(f, lowest, highest); got != 0 || ok {
			t.Errorf("P3.3: ToInt(%x): %d, %v", math.Float64bits(f), got, ok)
		}
	}
}

func TestFromInt(t *testing.T) {
	for _, c := range []struct {
		n    int64
		want float64
	}{
		{0, 0}, {1, 1}, {-1, -1}, {1<<53 - 1, 0x1.fffffffffffffp52}, {1 << 53, 0x1p53}, {1<<53 + 1, 0x1p53}, {1<<53 + 2, 0x1p53 + 2},
		{1<<53 + 3, 0x1p53 + 4}, {-1<<53 - 1, -0x1p53}, {-1<<53 - 3, -0x1p53 - 4}, {1<<54 + 2, 0x1p54}, {1<<54 + 3, 0x1p54 + 4},
		{1<<54 + 6, 0x1p54 + 8}, {math.MaxInt64, 0x1p63}, {math.MinInt64, -0x1p63}, {math.MinInt64 + 1, -0x1p63},
		{math.MaxInt64 - 511, 0x1p63}, {math.MaxInt64 - 512, 0x1.fffffffffffffp62}, {math.MinInt64 + 512, -0x1p63}, {math.MinInt64 + 513, -0x1.fffffffffffffp62},
	} {
		if got := float.FromInt(c.n); math.Float64bits(got) != math.Float64bits(c.want) {
			t.Errorf("P3.3: FromInt(%d): %x, not %x", c.n, got, c.want)
		}
	}
}

func TestFromIntRoundsAsRound64(t *testing.T) {
	for shift := range 63 {
		for more := int64(-3); more <= 3; more++ {
			for _, n := range []int64{1<<shift + more, -1<<shift + more, 3<<shift + more, math.MaxInt64>>shift + more} {
				got, want := float.FromInt(n), float.Round64(ratio.Whole(bigint.Of(n)))
				if math.Float64bits(got) != math.Float64bits(want) {
					t.Errorf("P3.3: FromInt(%d): %x, not %x", n, got, want)
				}
			}
		}
	}
}

func TestText(t *testing.T) {
	for _, c := range []struct {
		f    float64
		want string
	}{
		{0, "0/1"}, {math.Copysign(0, -1), "-0/1"}, {1, "1/1"}, {-3, "-3/1"}, {0.5, "1/2"}, {-2.75, "-11/4"},
		{0.1, "3602879701896397/36028797018963968"}, {0x1p64, "18446744073709551616/1"}, {-0x1p-33, "-1/8589934592"},
		{math.Inf(1), "+Inf"}, {math.Inf(-1), "-Inf"},
	} {
		if got := float.Text(c.f); got != c.want {
			t.Errorf("P3.3: Text(%x): %s, not %s", c.f, got, c.want)
		}
	}
	for _, f := range nans() {
		if got := float.Text(f); got != "NaN" {
			t.Errorf("P3.3: Text(%x): %s", math.Float64bits(f), got)
		}
	}
	for _, f := range finite() {
		want := new(big.Rat).SetFloat64(math.Abs(f)).String()
		if math.Signbit(f) {
			want = "-" + want
		}
		if got := float.Text(f); got != want {
			t.Errorf("P3.3: Text(%x): %s, not %s", f, got, want)
		}
	}
}
