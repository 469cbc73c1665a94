package ratio

import (
	"strings"

	"sterling/api"
	"sterling/bigint"
)

// Parse is the value of a number's literal; false if s is none.
func Parse(s string) (api.Rat, bool) {
	base, rest := cutBase(s)
	mantissa, exponent, hasExponent := cutExponent(rest, base)
	whole, part, hasPoint := strings.Cut(mantissa, ".")
	if !hasPoint && !hasExponent {
		return parseWhole(whole, base)
	}
	if !floatForm(base, hasExponent) {
		return zero(), false
	}
	digits, ok := bigint.Parse(whole+part, base)
	if !ok {
		return zero(), false
	}
	power, ok := parseExponent(exponent, hasExponent)
	if !ok {
		return zero(), false
	}
	if base == 16 {
		// A hexadecimal digit is four binary ones, and the exponent counts those.
		return scale(digits, 2, power-4*len(part)), true
	}
	return scale(digits, 10, power-len(part)), true
}

// cutBase is the base that s begins with, and what follows it.
func cutBase(s string) (int, string) {
	if len(s) < 2 || s[0] != '0' {
		return 10, s
	}
	switch s[1] {
	case 'x', 'X':
		return 16, s[2:]
	case 'o', 'O':
		return 8, s[2:]
	case 'b', 'B':
		return 2, s[2:]
	}
	return 10, s
}

// cutExponent is what stands ahead of the exponent's letter and behind it, and whether there is one.
func cutExponent(s string, base int) (string, string, bool) {
	letters := "eE"
	if base == 16 {
		letters = "pP"
	}
	at := strings.IndexAny(s, letters)
	if at < 0 {
		return s, "", false
	}
	return s[:at], s[at+1:], true
}

// floatForm tells whether a float of that base may be written so.
func floatForm(base int, hasExponent bool) bool {
	return base == 10 || base == 16 && hasExponent
}

func parseWhole(digits string, base int) (api.Rat, bool) {
	if base == 10 && len(digits) > 1 && digits[0] == '0' {
		return zero(), false
	}
	number, ok := bigint.Parse(digits, base)
	if !ok {
		return zero(), false
	}
	return Whole(number), true
}

// parseExponent is the number of an exponent, 0 if there is none; false if it is no number or a too great one.
func parseExponent(s string, has bool) (int, bool) {
	if !has {
		return 0, true
	}
	digits, neg := strings.CutPrefix(s, "-")
	if !neg {
		digits = strings.TrimPrefix(s, "+")
	}
	number, ok := bigint.Parse(digits, 10)
	if !ok {
		return 0, false
	}
	size, ok := bigint.Int64(number)
	if !ok || size > api.MaxExp {
		return 0, false
	}
	if neg {
		return -int(size), true
	}
	return int(size), true
}

// scale is digits * radix^power.
func scale(digits api.Big, radix int64, power int) api.Rat {
	if power < 0 {
		return lowest(api.Rat{Num: digits, Den: raise(radix, -power)})
	}
	return Whole(bigint.Mul(digits, raise(radix, power)))
}

// raise is radix^power; power is not below 0.
func raise(radix int64, power int) api.Big {
	result, square := bigint.Of(1), bigint.Of(radix)
	for power > 0 {
		if power%2 == 1 {
			result = bigint.Mul(result, square)
		}
		square = bigint.Mul(square, square)
		power /= 2
	}
	return result
}
