package typeset

import (
	"sterling/api"
	"sterling/types"
)

// numbers are given to types, from 0 on: those that are Eq have one.
type numbers struct {
	byText map[string][]int
	types  []api.Type
	texts  []string
}

func newNumbers() *numbers {
	return &numbers{byText: make(map[string][]int)}
}

// of is t's number, and whether it is given only now.
func (n *numbers) of(t api.Type) (number int, isNew bool) {
	text := types.Text(t)
	// One text may be that of several types: a method may be called `func`.
	for _, number := range n.byText[text] {
		if types.Eq(n.types[number], t) {
			return number, false
		}
	}
	number = len(n.types)
	n.byText[text] = append(n.byText[text], number)
	n.types = append(n.types, t)
	n.texts = append(n.texts, text)
	return number, true
}
