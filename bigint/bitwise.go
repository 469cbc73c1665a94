package bigint

import (
	"math/bits"

	"sterling/api"
)

// Bitwise is a op b bit by bit, numbers below zero being two's complements without end; false if op is another one.
func Bitwise(op string, a, b api.Big) (api.Big, bool) {
	x, y := trim(a.Mag), trim(b.Mag)
	// A word more than the longer one has: its bits stand for all that follow.
	size := max(len(x), len(y)) + 1
	left, right := complement(a.Neg, x, size), complement(b.Neg, y, size)
	for i, word := range right {
		switch op {
		case "&":
			left[i] &= word
		case "|":
			left[i] |= word
		case "^":
			left[i] ^= word
		case "&^":
			left[i] &^= word
		default:
			return api.Big{}, false
		}
	}
	neg := left[size-1]>>31 == 1
	return number(neg, complement(neg, left, size)), true
}

// complement is mag in size words, as two's complement if neg. It is its own way back.
func complement(neg bool, mag []uint32, size int) []uint32 {
	words := make([]uint32, size)
	copy(words, mag)
	if !neg {
		return words
	}
	carry := uint32(1)
	for i, word := range words {
		words[i], carry = bits.Add32(^word, 0, carry)
	}
	return words
}
