package scan

import "sterling/api"

// measureNumber is the kind and the length of the number that rest begins with; its length is 0 if it is wrong.
func measureNumber(rest string) (int, int) {
	kind, n := measureBased(rest)
	if n < len(rest) && (inName(rest[n]) || rest[n] == '.') {
		return kind, 0
	}
	return kind, n
}

// measureBased reads as measureNumber does, but does not look at what stands behind the number.
func measureBased(rest string) (int, int) {
	if rest[0] != '0' || len(rest) < 2 {
		return measureDecimal(rest)
	}
	switch rest[1] {
	case 'x', 'X':
		return measureHex(rest)
	case 'o', 'O':
		return measureWhole(rest, isOctal)
	case 'b', 'B':
		return measureWhole(rest, isBinary)
	}
	return measureDecimal(rest)
}

// prefix is the length of what names a base.
const prefix = len("0x")

func measureWhole(rest string, is func(byte) bool) (int, int) {
	n := span(rest[prefix:], is)
	if n == 0 {
		return api.TInt, 0
	}
	return api.TInt, prefix + n
}

func measureDecimal(rest string) (int, int) {
	n, digits, dot := measureDigits(rest, isDigit)
	if n < len(rest) && (rest[n] == 'e' || rest[n] == 'E') {
		return withExponent(rest, n)
	}
	if dot {
		return api.TFloat, n
	}
	if digits > 1 && rest[0] == '0' {
		return api.TInt, 0
	}
	return api.TInt, n
}

func measureHex(rest string) (int, int) {
	n, digits, dot := measureDigits(rest[prefix:], isHex)
	n += prefix
	if digits == 0 {
		return api.TInt, 0
	}
	if n < len(rest) && (rest[n] == 'p' || rest[n] == 'P') {
		return withExponent(rest, n)
	}
	if dot {
		return api.TFloat, 0
	}
	return api.TInt, n
}

// measureDigits is the length of the digits, with one dot among them or none, that s begins with, how many digits
// they are, and whether there is a dot.
func measureDigits(s string, is func(byte) bool) (int, int, bool) {
	n := span(s, is)
	if n == len(s) || s[n] != '.' {
		return n, n, false
	}
	more := span(s[n+1:], is)
	return n + 1 + more, n + more, true
}

// withExponent is the length of a float whose exponent begins at n; 0 if that has no number, or too great a one.
func withExponent(rest string, n int) (int, int) {
	n++
	if n < len(rest) && (rest[n] == '+' || rest[n] == '-') {
		n++
	}
	digits := span(rest[n:], isDigit)
	if digits == 0 || !fitsExponent(rest[n:n+digits]) {
		return api.TFloat, 0
	}
	return api.TFloat, n + digits
}

func fitsExponent(digits string) bool {
	value := 0
	for i := range len(digits) {
		value = 10*value + int(digits[i]-'0')
		if value > api.MaxExp {
			return false
		}
	}
	return true
}

func isBinary(c byte) bool { return c == '0' || c == '1' }

func isOctal(c byte) bool { return '0' <= c && c <= '7' }

func isHex(c byte) bool { return isDigit(c) || 'a' <= c && c <= 'f' || 'A' <= c && c <= 'F' }
