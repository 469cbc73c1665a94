package types

import "strings"

// blank is what stands where there is no name.
const blank = "_"

// maxPath is how many bytes a path may have.
const maxPath = 100

// isTypeName tells whether a declared type may be called so.
func isTypeName(name string) bool {
	if name == "error" || name == "comparable" {
		return true
	}
	dot := strings.LastIndexByte(name, '.')
	if dot < 0 {
		return false
	}
	path, number, isNumbered := strings.Cut(name[:dot], "~")
	return isPath(path) && (!isNumbered || isNumber(number)) && isName(name[dot+1:])
}

// lastName is what stands behind the last dot, or all if there is none.
func lastName(name string) string {
	return name[strings.LastIndexByte(name, '.')+1:]
}

// isPath tells whether p may be a path of doc/04.
func isPath(p string) bool {
	if p == "" || len(p) > maxPath || p[0] == '/' || p[len(p)-1] == '/' {
		return false
	}
	for i := range len(p) {
		if !inName(p[i]) && p[i] != '/' && p[i] != '.' && p[i] != '-' {
			return false
		}
	}
	return true
}

// isNumber tells whether s is a decimal number without zeros ahead.
func isNumber(s string) bool {
	if s == "" || s[0] == '0' && s != "0" {
		return false
	}
	for i := range len(s) {
		if !isDigit(s[i]) {
			return false
		}
	}
	return true
}

// isName tells whether s is a name or a word of doc/05: words are names, too.
func isName(s string) bool {
	if s == "" || isDigit(s[0]) {
		return false
	}
	for i := range len(s) {
		if !inName(s[i]) {
			return false
		}
	}
	return true
}

func inName(c byte) bool {
	return c == '_' || 'a' <= c && c <= 'z' || 'A' <= c && c <= 'Z' || isDigit(c)
}

func isDigit(c byte) bool { return '0' <= c && c <= '9' }
