package float_test

import (
	"math"
	"math/big"
	"slices"
	"testing"

	"sterling/api"
	"sterling/bigint"
	"sterling/float"
	"sterling/ratio"
)

// want64 is what the library rounds r to, but that a zero is +0.
func want64(r *big.Rat) float64 {
	f, _ := r.Float64()
	if f == 0 {
		return 0
	}
	return f
}

func want32(r *big.Rat) float32 {
	f, _ := r.Float32()
	if f == 0 {
		return 0
	}
	return f
}

func expect64(t *testing.T, what string, r api.Rat, want float64) {
	t.Helper()
	if got := float.Round64(r); math.Float64bits(got) != math.Float64bits(want) {
		t.Errorf("P3.1: Round64, %s: %x, not %x", what, got, want)
	}
}

func expect32(t *testing.T, what string, r api.Rat, want float32) {
	t.Helper()
	if got := float.Round32(r); math.Float32bits(got) != math.Float32bits(want) {
		t.Errorf("P3.1: Round32, %s: %x, not %x", what, got, want)
	}
}

// between asks for what stands just between the floats low and high, whose fractions are a and b, and a hair below and
// above that; even is that of low and high to which the middle one goes.
func between[F float32 | float64](t *testing.T, expect func(*testing.T, string, api.Rat, F), a, b *big.Rat, low, even, high F) {
	t.Helper()
	middle := new(big.Rat).Add(a, b)
	middle.Quo(middle, big.NewRat(2, 1))
	for _, hair := range []*big.Rat{power(-1100), power(-3000)} {
		below, above := new(big.Rat).Sub(middle, hair), new(big.Rat).Add(middle, hair)
		expect(t, "a hair below the middle", fromModel(below), low)
		expect(t, "the middle", fromModel(middle), even)
		expect(t, "a hair above the middle", fromModel(above), high)
		// Of low and high only what is rounded to zero has no sign.
		expect(t, "a hair below the middle, negative", fromModel(below.Neg(below)), negative(low))
		expect(t, "the middle, negative", fromModel(new(big.Rat).Neg(middle)), negative(even))
		expect(t, "a hair above the middle, negative", fromModel(above.Neg(above)), negative(high))
	}
}

func negative[F float32 | float64](f F) F {
	if f == 0 {
		return 0
	}
	return -f
}

func TestBetweenFloats64(t *testing.T) {
	for _, low := range finite() {
		if math.Signbit(low) {
			continue
		}
		high := math.Nextafter(low, math.Inf(1))
		even := low
		if math.Float64bits(low)%2 == 1 {
			even = high
		}
		b := power(1024)
		if !math.IsInf(high, 1) {
			b = new(big.Rat).SetFloat64(high)
		}
		between(t, expect64, new(big.Rat).SetFloat64(low), b, low, even, high)
	}
}

func TestBetweenFloats32(t *testing.T) {
	for _, bits := range []uint32{
		0, 1, 2, 3, 0x400000, 0x7ffffe, 0x7fffff, 0x800000, 0x800001, 0xffffff, 0x1000000, 0x3dcccccd, 0x3effffff, 0x3f7fffff, 0x3f800000,
		0x3f800001, 0x4b7fffff, 0x4b800000, 0x7effffff, 0x7f000000, 0x7f7ffffe, 0x7f7fffff,
	} {
		low, high := math.Float32frombits(bits), math.Float32frombits(bits+1)
		even := low
		if bits%2 == 1 {
			even = high
		}
		b := power(128)
		if !math.IsInf(float64(high), 1) {
			b = new(big.Rat).SetFloat64(float64(high))
		}
		between(t, expect32, new(big.Rat).SetFloat64(float64(low)), b, low, even, high)
	}
}

// A float's own fraction is rounded to itself, and what is twice rounded wrongly is rounded once.
func TestRoundIsDirect(t *testing.T) {
	for _, f := range finite() {
		want := f
		if f == 0 {
			want = 0
		}
		r := fromModel(new(big.Rat).SetFloat64(f))
		expect64(t, "its own fraction", r, want)
		expect32(t, "a float64's fraction", r, want32(model(r)))
	}
	// Just above the middle of two float32s: by way of a float64 it would be the middle, and go to the even one.
	r, _ := ratio.Parse("16777217.000000000000000001")
	expect32(t, "16777217 and a hair", r, 16777218)
	r, _ = ratio.Parse("16777217")
	expect32(t, "16777217", r, 16777216)
	r, _ = ratio.Parse("16777219")
	expect32(t, "16777219", r, 16777220)
}

func TestRoundNamedEdges(t *testing.T) {
	for _, c := range []struct {
		text string
		f64  float64
		f32  float32
	}{
		{"0", 0, 0},
		{"1", 1, 1},
		{"0.1", 0.1, 0.1},
		{"2.5", 2.5, 2.5},
		{"1e999", math.Inf(1), float32(math.Inf(1))},
		{"1e-999", 0, 0},
		{"1.7976931348623157e308", math.MaxFloat64, float32(math.Inf(1))},
		{"1.7976931348623159e308", math.Inf(1), float32(math.Inf(1))},
		{"0x1.fffffffffffff7ffffp999", 0x1.fffffffffffffp999, float32(math.Inf(1))},
		{"0x1.fffffffffffff8p999", 0x1p1000, float32(math.Inf(1))},
		{"0x1.fffffep127", math.MaxFloat32, math.MaxFloat32},
		{"0x1.fffffefffffffffffp127", 0x1.ffffffp127, math.MaxFloat32},
		{"0x1.ffffffp127", 0x1.ffffffp127, float32(math.Inf(1))},
		{"0x1p128", 0x1p128, float32(math.Inf(1))},
		{"4.9e-324", 0x1p-1074, 0},
		{"2.5e-324", 0x1p-1074, 0},
		{"2.4e-324", 0, 0},
		{"0x1p-149", 0x1p-149, 0x1p-149},
		{"0x1p-150", 0x1p-150, 0},
		{"0x1.000000001p-150", 0x1.000000001p-150, 0x1p-149},
		{"0x3p-150", 0x3p-150, 0x1p-148},
		{"0x1p-151", 0x1p-151, 0},
		{"9007199254740993", 1 << 53, 1 << 53},
		{"9007199254740993.1", 1<<53 + 2, 1 << 53},
		{"9007199254740995", 1<<53 + 4, 1 << 53},
	} {
		r, ok := ratio.Parse(c.text)
		if !ok {
			t.Fatalf("%q is no literal", c.text)
		}
		expect64(t, c.text, r, c.f64)
		expect32(t, c.text, r, c.f32)
		expect64(t, "-"+c.text, ratio.Neg(r), negative(c.f64))
		expect32(t, "-"+c.text, ratio.Neg(r), negative(c.f32))
	}
}

// forms are r's value in other ways: terms that are not lowest, signs on both, zeros at the end of Mag.
func forms(r *big.Rat) []api.Rat {
	var all []api.Rat
	for _, factor := range []*big.Int{big.NewInt(1), big.NewInt(-1), big.NewInt(60), big.NewInt(-1 << 40), power(2000).Num()} {
		num, den := fromWhole(new(big.Int).Mul(r.Num(), factor)), fromWhole(new(big.Int).Mul(r.Denom(), factor))
		padded := api.Rat{Num: num, Den: den}
		padded.Num.Mag = append(slices.Clone(num.Mag), 0, 0, 0)
		padded.Den.Mag = append(slices.Clone(den.Mag), 0)
		all = append(all, api.Rat{Num: num, Den: den}, padded)
	}
	return all
}

func TestRoundForms(t *testing.T) {
	for _, value := range []*big.Rat{
		new(big.Rat), big.NewRat(1, 3), big.NewRat(-1, 10), big.NewRat(1<<53+1, 1), big.NewRat(-1<<24-1, 1), big.NewRat(7, 1),
		power(-1074), power(-1075), power(-1076), power(-150), power(1023), power(1024), power(128), power(-9000), power(9000),
	} {
		for _, sign := range []int64{1, -1} {
			value := new(big.Rat).Mul(value, big.NewRat(sign, 1))
			for _, r := range forms(value) {
				expect64(t, value.String(), r, want64(value))
				expect32(t, value.String(), r, want32(value))
			}
		}
	}
}

func TestRoundOddFractions(t *testing.T) {
	negZero := api.Big{Neg: true, Mag: []uint32{0, 0}}
	for _, c := range []struct {
		what string
		r    api.Rat
		want float64
	}{
		{"the zero value", api.Rat{}, 0},
		{"a den of 0", of(7, 0), 7},
		{"a den of 0 below a negative one", of(-7, 0), -7},
		{"a den of 0 that is Neg", api.Rat{Num: bigint.Of(7), Den: negZero}, 7},
		{"a den of 0 with zeros", api.Rat{Num: bigint.Of(-7), Den: api.Big{Mag: []uint32{0}}}, -7},
		{"a den below 0", of(1, -2), -0.5},
		{"two signs", of(-1, -2), 0.5},
		{"a zero over a negative one", of(0, -5), 0},
		{"a zero that is Neg", api.Rat{Num: negZero, Den: bigint.Of(5)}, 0},
		{"a zero over a zero, both Neg", api.Rat{Num: negZero, Den: negZero}, 0},
		{"a zero that is Neg over a negative one", api.Rat{Num: negZero, Den: bigint.Of(-5)}, 0},
		{"not in lowest terms", of(60, -40), -1.5},
	} {
		expect64(t, c.what, c.r, c.want)
		expect32(t, c.what, c.r, float32(c.want))
	}
}

// mixed are fractions of many lengths, words of only zeros and only ones among them.
func mixed() []api.Rat {
	state := uint32(11)
	word := func() uint32 {
		state = state*1664525 + 1013904223
		switch state >> 29 {
		case 1:
			return 0
		case 2:
			return math.MaxUint32
		case 3:
			return 1 << 31
		}
		return state
	}
	number := func(size int) api.Big {
		a := api.Big{Neg: word()>>30 == 0}
		for range size {
			a.Mag = append(a.Mag, word())
		}
		return a
	}
	var all []api.Rat
	for i := range 8000 {
		all = append(all, api.Rat{Num: number(i % 41), Den: number(i % 43)})
	}
	return all
}

func TestRoundMixed(t *testing.T) {
	for _, r := range mixed() {
		want := model(r)
		expect64(t, "mixed", r, want64(want))
		expect32(t, "mixed", r, want32(want))
		if t.Failed() {
			t.Fatalf("with %s", want)
		}
	}
}

func TestRoundLong(t *testing.T) {
	long := make([]uint32, 1<<20)
	long[len(long)-1] = 5
	other := slices.Clone(long)
	other[0], other[len(other)-1] = 1, 15
	one := bigint.Of(1)
	a, b := api.Big{Mag: long}, api.Big{Neg: true, Mag: other}
	expect64(t, "long / 1", api.Rat{Num: a, Den: one}, math.Inf(1))
	expect64(t, "1 / long", api.Rat{Num: one, Den: a}, 0)
	expect64(t, "-long / 1", api.Rat{Num: b, Den: one}, math.Inf(-1))
	expect64(t, "1 / -long", api.Rat{Num: one, Den: b}, 0)
	expect64(t, "long / long", api.Rat{Num: a, Den: b}, -1.0/3)
	expect32(t, "long / long", api.Rat{Num: a, Den: b}, -1.0/3)
	expect32(t, "long / 1", api.Rat{Num: a, Den: one}, float32(math.Inf(1)))
	expect32(t, "1 / long", api.Rat{Num: one, Den: a}, 0)
}

// Rounding changes neither a list that is handed in nor its spare room.
func TestRoundKeepsArguments(t *testing.T) {
	const mark = 0xdeadbeef
	for _, r := range mixed()[:2000] {
		num := append(slices.Clone(r.Num.Mag), mark, mark, mark)
		den := append(slices.Clone(r.Den.Mag), mark, mark, mark)
		arg := api.Rat{
			Num: api.Big{Neg: r.Num.Neg, Mag: num[:len(r.Num.Mag)]},
			Den: api.Big{Neg: r.Den.Neg, Mag: den[:len(r.Den.Mag)]},
		}
		float.Round64(arg)
		float.Round32(arg)
		if !slices.Equal(num, append(slices.Clone(r.Num.Mag), mark, mark, mark)) || !slices.Equal(den, append(slices.Clone(r.Den.Mag), mark, mark, mark)) {
			t.Fatalf("P0.3: rounding changed its argument: %v", r)
		}
	}
}
