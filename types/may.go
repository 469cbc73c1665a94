package types

import (
	"slices"

	"sterling/api"
)

// May tells whether t may be.
func May(t api.Type) bool {
	c := count{left: api.MaxSize}
	return c.admits(t, 1)
}

// count is how many types may still come. What is too great is left as soon as that is seen, for its lists may stand in
// many places, and even in themselves.
type count struct {
	left int
}

// admits tells whether t, which stands that deep, may be there, and takes it and those in it off the count.
func (c *count) admits(t api.Type, depth int) bool {
	c.left--
	if depth > api.MaxDepth || c.left < len(t.Args) {
		return false
	}
	return hasNoOthers(t) && isWellMade(t) && c.admitsArgs(t, depth) && c.admitsSets(t.Sets, depth)
}

func (c *count) admitsArgs(t api.Type, depth int) bool {
	for i, arg := range t.Args {
		isResult := t.Kind == api.KFunc && i == t.Len
		if !standsInside(arg.Kind, isResult) || !c.admits(arg, depth+1) {
			return false
		}
	}
	return true
}

func (c *count) admitsSets(sets [][]api.Term, depth int) bool {
	for _, union := range sets {
		if len(union) == 0 {
			return false
		}
		for _, term := range union {
			if !standsInside(term.Type.Kind, false) || !c.admits(term.Type, depth+1) {
				return false
			}
		}
	}
	return true
}

// standsInside tells whether a type of that kind may stand in another one.
func standsInside(kind int, isResult bool) bool {
	switch kind {
	case api.KNil, api.KUntyped:
		return false
	case api.KVoid:
		return isResult
	}
	return true
}

// fields are those that a kind has.
type fields struct {
	name, length, args, names, emb, sets bool
}

// fieldsOf is by kind. KNone, without any, may not be.
var fieldsOf = [...]fields{
	api.KBasic:     {name: true},
	api.KNamed:     {name: true, args: true},
	api.KParam:     {name: true},
	api.KArray:     {length: true, args: true},
	api.KSlice:     {args: true},
	api.KPointer:   {args: true},
	api.KMap:       {args: true},
	api.KFunc:      {length: true, args: true},
	api.KStruct:    {args: true, names: true, emb: true},
	api.KInterface: {args: true, names: true, sets: true},
	api.KNil:       {},
	api.KUntyped:   {name: true},
	api.KVoid:      {},
}

// hasNoOthers tells whether t is of a kind, and has no field that others have alone.
func hasNoOthers(t api.Type) bool {
	if t.Kind <= api.KNone || t.Kind >= len(fieldsOf) {
		return false
	}
	has := fieldsOf[t.Kind]
	return (has.name || t.Name == "") && (has.length || t.Len == 0) && (has.args || len(t.Args) == 0) &&
		(has.names || len(t.Names) == 0) && (has.emb || len(t.Emb) == 0) && (has.sets || len(t.Sets) == 0)
}

// isWellMade tells whether the fields that t's kind has are as they are said to be, whatever the types in it are.
func isWellMade(t api.Type) bool {
	switch t.Kind {
	case api.KBasic:
		return isBasic(t.Name)
	case api.KNamed:
		return isTypeName(t.Name)
	case api.KParam:
		return t.Name != ""
	case api.KUntyped:
		return isUntyped(t.Name)
	case api.KArray:
		return len(t.Args) == 1 && 0 <= t.Len && t.Len <= api.MaxArray
	case api.KSlice, api.KPointer:
		return len(t.Args) == 1
	case api.KMap:
		return len(t.Args) == 2
	case api.KFunc:
		return len(t.Args) > 0 && t.Len == len(t.Args)-1
	case api.KStruct:
		return hasFields(t)
	case api.KInterface:
		return hasMethods(t)
	}
	return true
}

func hasFields(t api.Type) bool {
	if len(t.Names) != len(t.Args) || len(t.Emb) != len(t.Args) {
		return false
	}
	for i, name := range t.Names {
		if !isName(name) || t.Emb[i] && name != embeddedName(t.Args[i]) {
			return false
		}
	}
	return areApart(t.Names)
}

// embeddedName is what a field that embeds t is called; empty if there is none that may.
func embeddedName(t api.Type) string {
	if t.Kind == api.KPointer && len(t.Args) == 1 {
		t = t.Args[0]
	}
	if t.Kind != api.KNamed {
		return ""
	}
	return lastName(t.Name)
}

// areApart tells whether no two names are the same, but for those that are no names of their own.
func areApart(names []string) bool {
	sorted := slices.Sorted(slices.Values(names))
	for i := 1; i < len(sorted); i++ {
		if sorted[i-1] == sorted[i] && sorted[i] != blank {
			return false
		}
	}
	return true
}

func hasMethods(t api.Type) bool {
	if len(t.Names) != len(t.Args) {
		return false
	}
	for i, name := range t.Names {
		isRising := i == 0 || t.Names[i-1] < name
		if !isName(name) || name == blank || !isRising || t.Args[i].Kind != api.KFunc {
			return false
		}
	}
	return true
}
