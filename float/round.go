package float

import (
	"math"

	"sterling/api"
	"sterling/bigint"
)

// format is a size of floats: how many digits one has, the least and the greatest exponent of the last of them, and
// the bits of infinity. The last digit's place is called the unit.
type format struct {
	digits, leastUnit, mostUnit int
	infinity                    uint64
}

// Round64 is the float64 nearest to r, the even one of two that are equally near.
func Round64(r api.Rat) float64 {
	size := round(r, format{digits: 53, leastUnit: leastUnit, mostUnit: 971, infinity: infinity})
	if size != 0 && isBelowZero(r) {
		size |= signBit
	}
	return math.Float64frombits(size)
}

// Round32 is the float32 nearest to r, the even one of two that are equally near.
func Round32(r api.Rat) float32 {
	size := uint32(round(r, format{digits: 24, leastUnit: -149, mostUnit: 104, infinity: 0xff << 23}))
	if size != 0 && isBelowZero(r) {
		size |= 1 << 31
	}
	return math.Float32frombits(size)
}

// isBelowZero asks the signs alone, for r is not 0; that of a Den of 0 says nothing.
func isBelowZero(r api.Rat) bool {
	turned := r.Den.Neg && bigint.Bits(r.Den) != 0
	return r.Num.Neg != turned
}

// magnitudes is r without its sign; they share r's memory.
func magnitudes(r api.Rat) (num, den api.Big) {
	if bigint.Bits(r.Den) == 0 {
		return api.Big{Mag: r.Num.Mag}, bigint.Of(1)
	}
	return api.Big{Mag: r.Num.Mag}, api.Big{Mag: r.Den.Mag}
}

// round is the bits, without the sign, of the float nearest to r.
func round(r api.Rat, f format) uint64 {
	num, den := magnitudes(r)
	if bigint.Bits(num) == 0 {
		return 0
	}
	unit := max(exponent(num, den)-(f.digits-1), f.leastUnit)
	if unit > f.mostUnit {
		return f.infinity
	}
	count := nearest(scale(num, den, unit))
	// The leading digit, where there is one, makes the exponent one greater, for a subnormal float has the same unit as
	// the least that is none. So does rounding up to one digit more, which leads from the greatest float to infinity.
	return uint64(unit-f.leastUnit)<<(f.digits-1) + count
}

// exponent is that of the greatest power of two that is not above num / den; both are above 0.
func exponent(num, den api.Big) int {
	guess := bigint.Bits(num) - bigint.Bits(den)
	num, den = scale(num, den, guess)
	if bigint.Cmp(num, den) < 0 {
		return guess - 1
	}
	return guess
}

// scale is num and den such that their fraction is 2^count times less.
func scale(num, den api.Big, count int) (api.Big, api.Big) {
	if count < 0 {
		return shift(num, -count), den
	}
	return num, shift(den, count)
}

// shift is a * 2^count.
func shift(a api.Big, count int) api.Big {
	moved := bigint.Mul(a, bigint.Of(1<<(count%32)))
	return api.Big{Neg: moved.Neg, Mag: append(make([]uint32, count/32), moved.Mag...)}
}

// nearest is the whole number nearest to num / den, which is below 2^53, and the even one of two.
func nearest(num, den api.Big) uint64 {
	quotient, rest, _ := bigint.Quo(num, den)
	below, _ := bigint.Int64(quotient)
	order := bigint.Cmp(bigint.Add(rest, rest), den)
	if order > 0 || order == 0 && below%2 == 1 {
		below++
	}
	return uint64(below)
}
