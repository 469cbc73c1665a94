package bigint

import (
	"slices"

	"sterling/api"
)

// Text works on nine decimal digits at a time: the most that fit a word.
const (
	chunkDigits = 9
	chunkScale  = 1_000_000_000
)

// Parse is the number with the digits s of that base; false if s is no such number.
func Parse(s string, base int) (api.Big, bool) {
	if s == "" || !validBase(base) {
		return api.Big{}, false
	}
	var mag []uint32
	// Digits are gathered until one more might not fit a word, so that mag is gone through seldom.
	chunk, scale, radix := uint64(0), uint64(1), uint64(base)
	for i := range len(s) {
		digit := digitOf(s[i])
		if digit >= base {
			return api.Big{}, false
		}
		chunk = chunk*radix + uint64(digit)
		scale *= radix
		if scale*radix > 1<<32 {
			mag = scaleAndAdd(mag, scale, chunk)
			chunk, scale = 0, 1
		}
	}
	return number(false, scaleAndAdd(mag, scale, chunk)), true
}

func validBase(base int) bool {
	return base == 2 || base == 8 || base == 10 || base == 16
}

// digitOf is the value of a digit, or 16, which is no digit of any base.
func digitOf(c byte) int {
	switch {
	case '0' <= c && c <= '9':
		return int(c - '0')
	case 'a' <= c && c <= 'f':
		return int(c-'a') + 10
	case 'A' <= c && c <= 'F':
		return int(c-'A') + 10
	}
	return 16
}

// Text is a in decimal digits.
func Text(a api.Big) string {
	rest := slices.Clone(trim(a.Mag))
	if len(rest) == 0 {
		return "0"
	}
	var digits []byte
	for len(rest) > 0 {
		digits = appendDigits(digits, divideByWord(rest, chunkScale))
		rest = trim(rest)
	}
	for digits[len(digits)-1] == '0' {
		digits = digits[:len(digits)-1]
	}
	if a.Neg {
		digits = append(digits, '-')
	}
	slices.Reverse(digits)
	return string(digits)
}

// appendDigits appends a chunk's digits, the lowest first, zeros too.
func appendDigits(digits []byte, chunk uint32) []byte {
	for range chunkDigits {
		digits = append(digits, '0'+byte(chunk%10))
		chunk /= 10
	}
	return digits
}
