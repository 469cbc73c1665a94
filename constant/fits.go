package constant

import (
	"math"

	"sterling/api"
	"sterling/bigint"
	"sterling/float"
	"sterling/ratio"
)

// Convert is what name(a) is; false if there is no such constant. It tells the same as Fits: a conversion of constants
// neither cuts a fraction off nor makes a string of a number.
func Convert(a api.Const, name string) (api.Const, bool) {
	return Fits(a, name)
}

// Fits is a as a constant of the basic type of that name; false if it can't be one.
func Fits(a api.Const, name string) (api.Const, bool) {
	a = admit(a)
	switch {
	case isNumber(a):
		return fitNumber(a.Num, name)
	case a.Kind == api.CBool && name == "bool", a.Kind == api.CString && name == "string":
		return a, true
	}
	return api.Const{}, false
}

func fitNumber(num api.Rat, name string) (api.Const, bool) {
	switch name {
	case "float32":
		return ofFloat(float64(float.Round32(num)))
	case "float64":
		return ofFloat(float.Round64(num))
	}
	return fitInt(num, name)
}

// ofFloat is the constant of f; false if f is an infinity.
func ofFloat(f float64) (api.Const, bool) {
	number, ok := float.Exact(f)
	return ofNumber(api.CFloat, number, ok)
}

func fitInt(num api.Rat, name string) (api.Const, bool) {
	least, most, ok := integerEnds(name)
	number, whole := ratio.Int(num)
	if !ok || !whole || bigint.Cmp(number, least) < 0 || bigint.Cmp(number, most) > 0 {
		return api.Const{}, false
	}
	return ofNumber(api.CInt, ratio.Whole(number), true)
}

// integerEnds is the least and the greatest number of the integer type of that name; false if it is none.
func integerEnds(name string) (api.Big, api.Big, bool) {
	switch name {
	case "int":
		return bigint.Of(math.MinInt64), bigint.Of(math.MaxInt64), true
	case "int8":
		return bigint.Of(math.MinInt8), bigint.Of(math.MaxInt8), true
	case "uint":
		return api.Big{}, api.Big{Mag: []uint32{math.MaxUint32, math.MaxUint32}}, true
	case "uint8":
		return api.Big{}, bigint.Of(math.MaxUint8), true
	}
	return api.Big{}, api.Big{}, false
}
