package scan

import (
	"strconv"
	"strings"
	"unicode/utf8"
)

// Value is the bytes that the string literal lit says; empty and false if it is none.
func Value(lit string) (string, bool) {
	if lit == "" || stringLength(lit) != len(lit) {
		return "", false
	}
	var said strings.Builder
	inner := lit[1 : len(lit)-1]
	for inner != "" {
		piece, n := readPiece(inner, lit[0])
		said.WriteString(piece)
		inner = inner[n:]
	}
	return said.String(), true
}

// stringLength is the length of the string literal that s begins with; 0 if it is wrong or none.
func stringLength(s string) int {
	quote := s[0]
	if quote != '"' && quote != '`' {
		return 0
	}
	at := 1
	for at < len(s) && s[at] != quote {
		_, n := readPiece(s[at:], quote)
		if n == 0 {
			return 0
		}
		at += n
	}
	if at == len(s) {
		return 0
	}
	return at + 1
}

// readPiece is what the first piece of s, the inside of a literal, says, and its length: 0 if it is wrong.
func readPiece(s string, quote byte) (string, int) {
	switch {
	case quote == '`' && s[0] == '\r':
		return "", 1
	case quote == '"' && s[0] == '\n':
		return "", 0
	case quote == '"' && s[0] == '\\':
		return readEscape(s)
	}
	r, n := utf8.DecodeRuneInString(s)
	if r == utf8.RuneError && n == 1 {
		return "", 0
	}
	return s[:n], n
}

func readEscape(s string) (string, int) {
	if len(s) < 2 {
		return "", 0
	}
	switch s[1] {
	case '\\', '"':
		return s[1:2], 2
	case 'n':
		return "\n", 2
	case 't':
		return "\t", 2
	case 'x':
		return readByte(s)
	case 'u':
		return readPoint(s)
	}
	return "", 0
}

func readByte(s string) (string, int) {
	const length = len(`\xHH`)
	code, ok := readHex(s, length)
	if !ok {
		return "", 0
	}
	return string([]byte{byte(code)}), length
}

func readPoint(s string) (string, int) {
	const length = len(`\uHHHH`)
	code, ok := readHex(s, length)
	if !ok || !utf8.ValidRune(rune(code)) {
		return "", 0
	}
	return string(rune(code)), length
}

// readHex is the number of the escape of that length that s begins with.
func readHex(s string, length int) (uint64, bool) {
	const sign = len(`\x`)
	if len(s) < length {
		return 0, false
	}
	code, err := strconv.ParseUint(s[sign:length], 16, 16)
	return code, err == nil
}
