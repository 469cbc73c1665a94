package constant

import (
	"strings"

	"sterling/api"
	"sterling/ratio"
	"sterling/scan"
)

// basePrefix is the length of what names a base.
const basePrefix = len("0x")

// mostDigits is how many digits a float may have ahead of the point, or behind it: with more than these, not even the
// greatest exponent makes it one that may be.
const mostDigits = api.MaxBits + api.MaxExp

// Lit is the constant of the literal n; false if it is none.
func Lit(n api.Node) (api.Const, bool) {
	switch n.Kind {
	case api.NInt:
		return litInt(n.Text)
	case api.NFloat:
		return litFloat(n.Text)
	case api.NString:
		return ofText(scan.Value(n.Text))
	}
	return api.Const{}, false
}

func litInt(text string) (api.Const, bool) {
	// A number has at least as many bits as digits. It is refused by these, for working out a long one takes long.
	if !isToken(text, api.TInt) || len(leadingOff(text)) > api.MaxBits {
		return api.Const{}, false
	}
	number, ok := ratio.Parse(text)
	return ofNumber(api.CInt, number, ok)
}

func litFloat(text string) (api.Const, bool) {
	if !isToken(text, api.TFloat) {
		return api.Const{}, false
	}
	brief, ok := zerosOff(text)
	if !ok {
		return api.Const{}, false
	}
	number, ok := ratio.Parse(brief)
	return ofNumber(api.CFloat, number, ok)
}

// isToken tells whether text as a whole is one token of that kind.
func isToken(text string, kind int) bool {
	tokens, _, ok := scan.Scan([]byte(text))
	return ok && tokens[0].Kind == kind && tokens[0].Text == text
}

// leadingOff is a whole number's digits without the zeros ahead.
func leadingOff(text string) string {
	if len(text) > basePrefix && text[0] == '0' {
		text = text[basePrefix:]
	}
	return strings.TrimLeft(text, "0")
}

// zerosOff is a float's literal without the zeros that say nothing, for working out many of them takes long; false if
// too many digits are left.
func zerosOff(text string) (string, bool) {
	// A zero is put ahead, for there must be a digit.
	start, letters := "0", "eE"
	if strings.HasPrefix(text, "0x") || strings.HasPrefix(text, "0X") {
		start, letters, text = "0x0", "pP", text[basePrefix:]
	}
	mantissa, exponent := text, ""
	if at := strings.IndexAny(text, letters); at >= 0 {
		mantissa, exponent = text[:at], text[at:]
	}
	whole, part, _ := strings.Cut(mantissa, ".")
	whole, part = strings.TrimLeft(whole, "0"), strings.TrimRight(part, "0")
	if max(len(whole), len(part)) > mostDigits {
		return "", false
	}
	return start + whole + "." + part + exponent, true
}
