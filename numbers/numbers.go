// Package numbers gives types numbers, so that those that are Eq are told by a number of their own. It stands on types;
// layers that hold many types against one another stand on it.
package numbers

import (
	"sterling/api"
	"sterling/types"
)

// Numbers are given to types, from 0 on: those that are Eq have one. The types are kept as they are handed in.
type Numbers struct {
	byText map[string][]int
	types  []api.Type
	texts  []string
}

// New are numbers of which none is given yet.
func New() *Numbers {
	return &Numbers{byText: make(map[string][]int)}
}

// Of is the number of t, which may be, and whether it is given only now.
func (n *Numbers) Of(t api.Type) (number int, isNew bool) {
	text := types.Text(t)
	// One text may be that of several types: a method may be called `func`.
	for _, number := range n.byText[text] {
		if types.Eq(n.types[number], t) {
			return number, false
		}
	}
	number = len(n.types)
	n.byText[text] = append(n.byText[text], number)
	n.types = append(n.types, t)
	n.texts = append(n.texts, text)
	return number, true
}

// Type is the type that the number was given to.
func (n *Numbers) Type(number int) api.Type { return n.types[number] }

// Text is that of the type that the number was given to.
func (n *Numbers) Text(number int) string { return n.texts[number] }
