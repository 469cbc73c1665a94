package env

import (
	"strconv"
	"strings"

	"sterling/api"
)

// mark stands in the names of declarations' parameters alone, between the declaration's and a number.
const mark = "#"

// paramNames are those of d's parameters.
func paramNames(d api.Decl) []string {
	names := make([]string, len(d.Params))
	for i := range names {
		names[i] = d.Name + mark + strconv.Itoa(i)
	}
	return names
}

// ownedParam takes a declaration's parameter apart: whose it is, and which one; false if it can't be one.
func ownedParam(param string) (owner string, number int, isOwned bool) {
	// The last one counts, as a declaration's name may have others.
	cut := strings.LastIndex(param, mark)
	if cut < 0 {
		return "", 0, false
	}
	digits := param[cut+len(mark):]
	number, err := strconv.Atoi(digits)
	// Atoi takes signs and zeros ahead, too.
	if err != nil || number < 0 || strconv.Itoa(number) != digits {
		return "", 0, false
	}
	return param[:cut], number, true
}
