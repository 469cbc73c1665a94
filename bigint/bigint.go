// Package bigint calculates with whole numbers of any size, exactly: see doc/01-bigint.md.
package bigint

import (
	"cmp"
	"math"
	"math/bits"
	"slices"

	"sterling/api"
)

// number is the only place where answers are made, so that all of them are in normal form. It keeps mag.
func number(neg bool, mag []uint32) api.Big {
	mag = trim(mag)
	if len(mag) == 0 {
		return api.Big{}
	}
	return api.Big{Neg: neg, Mag: mag}
}

// sign is -1, 0 or 1; a zero has none, whatever its Neg says.
func sign(a api.Big) int {
	switch {
	case len(trim(a.Mag)) == 0:
		return 0
	case a.Neg:
		return -1
	}
	return 1
}

// Of is n as a number.
func Of(n int64) api.Big {
	size := uint64(n)
	if n < 0 {
		// As a uint64 the lowest int64 has a negative that fits, too.
		size = -size
	}
	return number(n < 0, []uint32{uint32(size), uint32(size >> 32)})
}

// Int64 is a as an int64, if it fits.
func Int64(a api.Big) (int64, bool) {
	mag := trim(a.Mag)
	if len(mag) > 2 {
		return 0, false
	}
	size := uint64(0)
	for i, word := range mag {
		size |= uint64(word) << (32 * i)
	}
	switch {
	case !a.Neg && size <= math.MaxInt64:
		return int64(size), true
	case a.Neg && size <= 1<<63:
		return int64(-size), true
	}
	return 0, false
}

// Cmp is -1, 0 or 1: a is below, equal to or above b.
func Cmp(a, b api.Big) int {
	if order := cmp.Compare(sign(a), sign(b)); order != 0 {
		return order
	}
	return sign(a) * compare(trim(a.Mag), trim(b.Mag))
}

// Neg is a with the other sign.
func Neg(a api.Big) api.Big {
	return number(!a.Neg, slices.Clone(trim(a.Mag)))
}

// Add is a + b.
func Add(a, b api.Big) api.Big {
	return addSigned(a, b.Neg, b.Mag)
}

// Sub is a - b.
func Sub(a, b api.Big) api.Big {
	return addSigned(a, !b.Neg, b.Mag)
}

// addSigned takes b in parts, so that Sub can turn its sign without a copy.
func addSigned(a api.Big, bNeg bool, bMag []uint32) api.Big {
	x, y := trim(a.Mag), trim(bMag)
	switch {
	case a.Neg == bNeg:
		return number(a.Neg, add(x, y))
	case compare(x, y) >= 0:
		return number(a.Neg, subtract(x, y))
	}
	return number(bNeg, subtract(y, x))
}

// Mul is a * b.
func Mul(a, b api.Big) api.Big {
	return number(a.Neg != b.Neg, multiply(trim(a.Mag), trim(b.Mag)))
}

// Quo is the quotient, cut towards zero, and the remainder, with a's sign; false if b is 0.
func Quo(a, b api.Big) (api.Big, api.Big, bool) {
	x, y := trim(a.Mag), trim(b.Mag)
	if len(y) == 0 {
		return api.Big{}, api.Big{}, false
	}
	quotient, rest := divide(x, y)
	return number(a.Neg != b.Neg, quotient), number(a.Neg, rest), true
}

// Bits is how many binary digits a's magnitude has.
func Bits(a api.Big) int {
	mag := trim(a.Mag)
	if len(mag) == 0 {
		return 0
	}
	last := len(mag) - 1
	return 32*last + bits.Len32(mag[last])
}
