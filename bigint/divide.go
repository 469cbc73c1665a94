package bigint

import (
	"math/bits"
	"slices"
)

// divide is quotient and remainder; a and b are trimmed, b is not zero.
func divide(a, b []uint32) ([]uint32, []uint32) {
	switch {
	case compare(a, b) < 0:
		return nil, slices.Clone(a)
	case len(b) == 1:
		quotient := slices.Clone(a)
		rest := divideByWord(quotient, b[0])
		return quotient, []uint32{rest}
	}
	return divideLong(a, b)
}

// divideByWord puts mag / divisor into mag and answers the remainder.
func divideByWord(mag []uint32, divisor uint32) uint32 {
	rest := uint64(0)
	for i := len(mag) - 1; i >= 0; i-- {
		t := rest<<32 | uint64(mag[i])
		mag[i] = uint32(t / uint64(divisor))
		rest = t % uint64(divisor)
	}
	return uint32(rest)
}

// divideLong is long division, a word of the quotient a step (Knuth's algorithm D); b has two words or more and is
// not above a.
func divideLong(a, b []uint32) ([]uint32, []uint32) {
	n := len(b)
	// With b's highest bit set, a guess from b's two highest words is at most 1 too great.
	count := bits.LeadingZeros32(b[n-1])
	divisor := shiftLeft(b, count, n)
	rest := shiftLeft(a, count, len(a)+1)
	quotient := make([]uint32, len(a)-n+1)
	for i := len(quotient) - 1; i >= 0; i-- {
		quotient[i] = divideStep(rest[i:i+n+1], divisor)
	}
	return quotient, shiftRight(rest[:n], count)
}

// divideStep is one word of the quotient, and leaves the remainder in rest, which is one word longer than divisor.
func divideStep(rest, divisor []uint32) uint32 {
	word := guessWord(rest, divisor)
	if subtractScaled(rest, divisor, word) {
		word--
		addBack(rest, divisor)
	}
	return word
}

// guessWord is the step's word of the quotient, or that and 1, from the highest words.
func guessWord(rest, divisor []uint32) uint32 {
	n := len(divisor)
	top := uint64(rest[n])<<32 | uint64(rest[n-1])
	high, low := uint64(divisor[n-1]), uint64(divisor[n-2])
	guess, left := top/high, top%high
	for guess>>32 != 0 || guess*low > left<<32|uint64(rest[n-2]) {
		guess--
		left += high
		if left>>32 != 0 {
			break
		}
	}
	return uint32(guess)
}

// subtractScaled takes divisor * scale from rest, and tells whether that went below zero.
func subtractScaled(rest, divisor []uint32, scale uint32) bool {
	carry, borrow := uint64(0), uint32(0)
	for i, word := range divisor {
		t := uint64(word)*uint64(scale) + carry
		rest[i], borrow = bits.Sub32(rest[i], uint32(t), borrow)
		carry = t >> 32
	}
	n := len(divisor)
	rest[n], borrow = bits.Sub32(rest[n], uint32(carry), borrow)
	return borrow != 0
}

// addBack adds divisor to rest once; what is carried out of rest makes up for what was borrowed.
func addBack(rest, divisor []uint32) {
	carry := uint32(0)
	for i, word := range divisor {
		rest[i], carry = bits.Add32(rest[i], word, carry)
	}
	rest[len(divisor)] += carry
}
