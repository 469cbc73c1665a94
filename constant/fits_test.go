package constant_test

import (
	"math"
	"math/big"
	"strings"
	"testing"

	"sterling/api"
	"sterling/constant"
)

// basicNames are those of the basic types.
func basicNames() []string {
	return strings.Fields("bool string int int8 uint8 uint float32 float64")
}

// names are those of the basic types and others.
func names() []string {
	return append(basicNames(), "", " ", "int ", " int", "Int", "INT", "int16", "int32", "int64", "uint16", "uint32", "uint64", "uintptr", "byte", "rune", "float", "Float64",
		"float64 ", "complex64", "complex128", "boolean", "Bool", "String", "any", "error", "comparable", "nil", "true", "untyped int", "p.int", "\x00", "int\x00", "\xff", strings.Repeat("int", 1000))
}

// ends are the least and the greatest number of an integer type.
func ends(name string) (*big.Rat, *big.Rat) {
	switch name {
	case "int":
		return rat("-9223372036854775808"), rat("9223372036854775807")
	case "int8":
		return rat("-128"), rat("127")
	case "uint8":
		return rat("0"), rat("255")
	case "uint":
		return rat("0"), rat("18446744073709551615")
	}
	return nil, nil
}

// rounded is the value of r as a float of that size, worked out by the library; nil if it is an infinity.
func rounded(name string, r *big.Rat) *big.Rat {
	f, _ := r.Float64()
	if name == "float32" {
		small, _ := r.Float32()
		f = float64(small)
	}
	if math.IsInf(f, 0) {
		return nil
	}
	return new(big.Rat).SetFloat64(f)
}

// wantFits is what a is as a constant of that type, worked out by the library.
func wantFits(a sample, name string) string {
	low, high := ends(name)
	switch {
	case a.Kind == api.CBool && name == "bool", a.Kind == api.CString && name == "string":
		return tell(a.Const, true)
	case a.isNumber() && low != nil && a.r.IsInt() && a.r.Cmp(low) >= 0 && a.r.Cmp(high) <= 0:
		return tellNumber(api.CInt, a.r)
	case a.isNumber() && (name == "float32" || name == "float64"):
		if r := rounded(name, a.r); r != nil {
			return tellNumber(api.CFloat, r)
		}
	}
	return none
}

// expectFits asks for the same of Fits and Convert.
func expectFits(t *testing.T, a api.Const, name, want string) {
	t.Helper()
	if got := tell(constant.Fits(a, name)); got != want {
		t.Errorf("P10.3: Fits(%s, %s): %s, not %s", brief(tell(a, true)), brief(name), brief(got), brief(want))
	}
	if got := tell(constant.Convert(a, name)); got != want {
		t.Errorf("P10.3: Convert(%s, %s): %s, not %s", brief(tell(a, true)), brief(name), brief(got), brief(want))
	}
}

func TestFits(t *testing.T) {
	for _, a := range samples() {
		for _, name := range names() {
			expectFits(t, a.Const, name, wantFits(a, name))
		}
	}
}

// Numbers at both ends of every integer type, just within and just beyond, whole and not, of both kinds.
func TestFitsIntegerEnds(t *testing.T) {
	for _, name := range []string{"int", "int8", "uint8", "uint"} {
		low, high := ends(name)
		for step := int64(-2); step <= 2; step++ {
			for _, kind := range []int{api.CInt, api.CFloat} {
				want := none
				if step >= 0 {
					want = tellNumber(api.CInt, plus(low, step))
				}
				expectFits(t, number(kind, plus(low, step)), name, want)
				want = none
				if step <= 0 {
					want = tellNumber(api.CInt, plus(high, step))
				}
				expectFits(t, number(kind, plus(high, step)), name, want)
			}
			for _, part := range []*big.Rat{rat("1/2"), rat("1/3"), rat("-1/1000000000000"), power(1 - 4000), power(-4000)} {
				expectFits(t, number(api.CFloat, new(big.Rat).Add(plus(low, step), part)), name, none)
				expectFits(t, number(api.CFloat, new(big.Rat).Add(plus(high, step), part)), name, none)
			}
		}
	}
}

// The words of the chapter, one by one, without a model.
func TestFitsNamed(t *testing.T) {
	for _, c := range [][3]string{
		{"true", "bool", "true"}, {"false", "bool", "false"}, {"true", "string", none}, {"true", "int", none}, {"true", "float64", none}, {"1", "bool", none}, {`"true"`, "bool", none},
		{`"a"`, "string", `"a"`}, {`""`, "string", `""`}, {`"1"`, "int", none}, {`"1"`, "float64", none}, {`"a"`, "uint8", none}, {"65", "string", none}, {"float 65", "string", none},
		{"-128", "int8", "-128"}, {"-129", "int8", none}, {"127", "int8", "127"}, {"128", "int8", none}, {"0", "uint8", "0"}, {"-1", "uint8", none}, {"255", "uint8", "255"}, {"256", "uint8", none},
		{"-9223372036854775808", "int", "-9223372036854775808"}, {"-9223372036854775809", "int", none}, {"9223372036854775807", "int", "9223372036854775807"}, {"9223372036854775808", "int", none},
		{"0", "uint", "0"}, {"-1", "uint", none}, {"18446744073709551615", "uint", "18446744073709551615"}, {"18446744073709551616", "uint", none}, {"9223372036854775808", "uint", "9223372036854775808"},
		{"float 2", "int", "2"}, {"float -2", "int8", "-2"}, {"float 5/2", "int", none}, {"float 1/2", "uint8", none}, {"float -1/2", "uint", none}, {"float 0", "uint", "0"}, {"float 256", "uint8", none},
		{"2", "float64", "float 2/1"}, {"0", "float32", "float 0/1"}, {"-7", "float32", "float -7/1"}, {"float 5/2", "float64", "float 5/2"}, {"float 5/2", "float32", "float 5/2"},
		{"float 1/10", "float64", "float 3602879701896397/36028797018963968"}, {"float 1/10", "float32", "float 13421773/134217728"},
		{"16777217", "float32", "float 16777216/1"}, {"16777219", "float32", "float 16777220/1"}, {"16777217", "float64", "float 16777217/1"},
		{"9007199254740993", "float64", "float 9007199254740992/1"}, {"9007199254740995", "float64", "float 9007199254740996/1"}, {"-9007199254740993", "float64", "float -9007199254740992/1"},
		{"1", "int16", none}, {"1", "", none}, {"1", "float", none}, {"true", "", none}, {`"a"`, "", none},
	} {
		expectFits(t, parse(c[0]).Const, c[1], c[2])
	}
}

// Just between two neighbouring floats, and a hair below and above that: to the even one, the lower, the upper.
func expectBetween(t *testing.T, name string, low, high *big.Rat, lowIsEven bool, wantLow, wantHigh string, sign *big.Rat) {
	t.Helper()
	middle := times(new(big.Rat).Add(low, high), rat("1/2"))
	hair := power(-3000)
	even := wantHigh
	if lowIsEven {
		even = wantLow
	}
	expectFits(t, number(api.CFloat, times(low, sign)), name, wantLow)
	expectFits(t, number(api.CFloat, times(new(big.Rat).Sub(middle, hair), sign)), name, wantLow)
	expectFits(t, number(api.CFloat, times(middle, sign)), name, even)
	expectFits(t, number(api.CFloat, times(new(big.Rat).Add(middle, hair), sign)), name, wantHigh)
	expectFits(t, number(api.CFloat, times(high, sign)), name, wantHigh)
}

func TestFitsFloat64Neighbours(t *testing.T) {
	for _, bits := range []uint64{
		0, 1, 2, 3, 0x7ffffffffffff, 0xffffffffffffe, 0xfffffffffffff, 0x10000000000000, 0x10000000000001, 0x1fffffffffffff, 0x20000000000000,
		0x3fb999999999999a, 0x3fefffffffffffff, 0x3ff0000000000000, 0x3ff0000000000001, 0x433fffffffffffff, 0x4340000000000000, 0x43dfffffffffffff,
		0x7fe0000000000000, 0x7feffffffffffffe, 0x7fefffffffffffff,
	} {
		low, high := new(big.Rat).SetFloat64(math.Float64frombits(bits)), power(1024)
		for _, sign := range []*big.Rat{rat("1"), rat("-1")} {
			wantHigh := none
			if f := math.Float64frombits(bits + 1); !math.IsInf(f, 0) {
				high = new(big.Rat).SetFloat64(f)
				wantHigh = tellNumber(api.CFloat, times(high, sign))
			}
			expectBetween(t, "float64", low, high, bits%2 == 0, tellNumber(api.CFloat, times(low, sign)), wantHigh, sign)
		}
	}
}

func TestFitsFloat32Neighbours(t *testing.T) {
	for _, bits := range []uint32{
		0, 1, 2, 3, 0x3fffff, 0x7ffffe, 0x7fffff, 0x800000, 0x800001, 0xffffff, 0x1000000, 0x3dcccccd, 0x3f7fffff, 0x3f800000, 0x3f800001,
		0x4b7fffff, 0x4b800000, 0x5effffff, 0x7f000000, 0x7f7ffffe, 0x7f7fffff,
	} {
		low, high := new(big.Rat).SetFloat64(float64(math.Float32frombits(bits))), power(128)
		for _, sign := range []*big.Rat{rat("1"), rat("-1")} {
			wantHigh := none
			if f := float64(math.Float32frombits(bits + 1)); !math.IsInf(f, 0) {
				high = new(big.Rat).SetFloat64(f)
				wantHigh = tellNumber(api.CFloat, times(high, sign))
			}
			expectBetween(t, "float32", low, high, bits%2 == 0, tellNumber(api.CFloat, times(low, sign)), wantHigh, sign)
		}
	}
}

// The greatest floats and what is rounded to an infinity, the least ones and what is rounded to zero.
func TestFitsFloatEdges(t *testing.T) {
	const zero = "float 0/1"
	great32, great64 := new(big.Rat).SetFloat64(math.MaxFloat32), new(big.Rat).SetFloat64(math.MaxFloat64)
	least32, least64 := power(-149), power(-1074)
	of := func(r *big.Rat) string { return tellNumber(api.CFloat, r) }
	for _, c := range []struct {
		r              *big.Rat
		want32, want64 string
	}{
		{great32, of(great32), of(great32)},
		{plus(great32, 1), of(great32), of(great32)},
		{new(big.Rat).Sub(power(128), power(103)), none, of(new(big.Rat).Sub(power(128), power(103)))},
		{plus(new(big.Rat).Sub(power(128), power(103)), -1), of(great32), of(new(big.Rat).Sub(power(128), power(103)))},
		{power(128), none, of(power(128))},
		{great64, none, of(great64)},
		{plus(great64, 1), none, of(great64)},
		{new(big.Rat).Sub(power(1024), power(970)), none, none},
		{plus(new(big.Rat).Sub(power(1024), power(970)), -1), none, of(great64)},
		{power(1024), none, none},
		{rat("1e999"), none, none},
		{most(), none, none},
		{least32, of(least32), of(least32)},
		{power(-150), zero, of(power(-150))},
		{new(big.Rat).Add(power(-150), power(-300)), of(least32), of(power(-150))},
		{least64, zero, of(least64)},
		{power(-1075), zero, zero},
		{new(big.Rat).Add(power(-1075), power(-2000)), zero, of(least64)},
		{power(-1076), zero, zero},
		{rat("1e-999"), zero, zero},
		{power(1 - api.MaxBits), zero, zero},
		{power(-126), of(power(-126)), of(power(-126))},
		{power(-1022), zero, of(power(-1022))},
	} {
		expectFits(t, number(api.CFloat, c.r), "float32", c.want32)
		expectFits(t, number(api.CFloat, c.r), "float64", c.want64)
		if c.r.IsInt() {
			expectFits(t, number(api.CInt, c.r), "float32", c.want32)
			expectFits(t, number(api.CInt, c.r), "float64", c.want64)
		}
		expectFits(t, number(api.CFloat, minus(c.r)), "float32", negative(c.want32))
		expectFits(t, number(api.CFloat, minus(c.r)), "float64", negative(c.want64))
	}
}

// negative is told of the same number below zero; what is rounded to zero has no sign.
func negative(told string) string {
	if told == "float 0/1" {
		return told
	}
	return strings.Replace(told, "float ", "float -", 1)
}

// What fits is as it is from then on.
func TestFitsTwice(t *testing.T) {
	for _, a := range samples() {
		for _, name := range basicNames() {
			once, ok := constant.Fits(a.Const, name)
			if !ok {
				continue
			}
			expectFits(t, once, name, tell(once, true))
		}
	}
}

func TestDefault(t *testing.T) {
	wanted := map[int]string{api.CBool: "bool", api.CString: "string", api.CInt: "int", api.CFloat: "float64"}
	for _, a := range samples() {
		if got := constant.Default(a.Const); got != wanted[a.Kind] {
			t.Errorf("P10.3: Default(%s) is %q", a, got)
		}
	}
	for _, kind := range []int{api.CNone, -1, 5, 6, 100, 1 << 62, -1 << 63} {
		if got := constant.Default(api.Const{Kind: kind}); got != "" {
			t.Errorf("P10.3: Default of the kind %d is %q", kind, got)
		}
	}
}
