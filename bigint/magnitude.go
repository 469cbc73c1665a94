package bigint

import (
	"cmp"
	"math/bits"
)

// A magnitude is a []uint32, the lowest 32 bits first. The functions here read their arguments without changing
// them and answer new memory, unless they say otherwise; where one says 'trimmed', no zero stands at the end.

// trim is mag without the zeros at its end; it shares mag's memory.
func trim(mag []uint32) []uint32 {
	n := len(mag)
	for n > 0 && mag[n-1] == 0 {
		n--
	}
	return mag[:n]
}

// compare is -1, 0 or 1; a and b are trimmed.
func compare(a, b []uint32) int {
	if len(a) != len(b) {
		return cmp.Compare(len(a), len(b))
	}
	for i := len(a) - 1; i >= 0; i-- {
		if a[i] != b[i] {
			return cmp.Compare(a[i], b[i])
		}
	}
	return 0
}

func add(a, b []uint32) []uint32 {
	if len(a) < len(b) {
		a, b = b, a
	}
	sum := make([]uint32, len(a)+1)
	carry := uint32(0)
	for i, word := range a {
		other := uint32(0)
		if i < len(b) {
			other = b[i]
		}
		sum[i], carry = bits.Add32(word, other, carry)
	}
	sum[len(a)] = carry
	return sum
}

// subtract is a - b; b is not above a, and no longer.
func subtract(a, b []uint32) []uint32 {
	rest := make([]uint32, len(a))
	borrow := uint32(0)
	for i, word := range a {
		other := uint32(0)
		if i < len(b) {
			other = b[i]
		}
		rest[i], borrow = bits.Sub32(word, other, borrow)
	}
	return rest
}

func multiply(a, b []uint32) []uint32 {
	product := make([]uint32, len(a)+len(b))
	for i, word := range a {
		product[i+len(b)] = addScaled(product[i:i+len(b)], b, word)
	}
	return product
}

// addScaled adds b * scale into to, which is as long as b, and answers what is carried beyond it.
func addScaled(to, b []uint32, scale uint32) uint32 {
	carry := uint64(0)
	for i, word := range b {
		// At most (2^32-1)^2 + 2*(2^32-1) = 2^64-1: it fits.
		t := uint64(word)*uint64(scale) + uint64(to[i]) + carry
		to[i] = uint32(t)
		carry = t >> 32
	}
	return uint32(carry)
}

// scaleAndAdd is mag * scale + more, in mag's own memory where there is room; scale is at most 2^32, more below scale.
func scaleAndAdd(mag []uint32, scale, more uint64) []uint32 {
	carry := more
	for i, word := range mag {
		// At most (2^32-1)*2^32 + 2^32-1 = 2^64-1: it fits.
		t := uint64(word)*scale + carry
		mag[i] = uint32(t)
		carry = t >> 32
	}
	if carry != 0 {
		mag = append(mag, uint32(carry))
	}
	return mag
}

// shiftLeft is mag * 2^count, in size words; count is below 32, and size is enough.
func shiftLeft(mag []uint32, count, size int) []uint32 {
	moved := make([]uint32, size)
	carry := uint64(0)
	for i, word := range mag {
		t := uint64(word)<<count | carry
		moved[i] = uint32(t)
		carry = t >> 32
	}
	if len(mag) < size {
		moved[len(mag)] = uint32(carry)
	}
	return moved
}

// shiftRight is mag / 2^count; count is below 32.
func shiftRight(mag []uint32, count int) []uint32 {
	moved := make([]uint32, len(mag))
	above := uint64(0)
	for i := len(mag) - 1; i >= 0; i-- {
		t := above<<32 | uint64(mag[i])
		moved[i] = uint32(t >> count)
		above = uint64(mag[i])
	}
	return moved
}
