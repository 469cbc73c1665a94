// Package members finds the fields and methods of types, as selectors mean them: their own and, depth by depth, those of
// embedded fields. It stands on env and subst; lookup and typeset stand on it.
package members

import (
	"maps"
	"slices"

	"sterling/api"
	"sterling/env"
	"sterling/types"
)

// Faces tells the methods of an interface, or of a type parameter, or that there are none to be told.
type Faces func(e *env.Env, t api.Type) (names []string, sigs []api.Type, areTold bool)

// Members are those of one type, found as far as they are asked for.
type Members struct {
	e     *env.Env
	faces Faces
	// holders are where members are, by rising depth; from open on they are not looked into yet.
	holders []holder
	open    int
	// found are the members by their names, each at the least depth.
	found map[string]mention
	// met are the names of declared types. At a greater depth one has nothing that isn't found already, whatever its
	// arguments are.
	met map[string]struct{}
}

// Of are the members of t: none, if e doesn't know it.
func Of(e *env.Env, t api.Type, faces Faces) *Members {
	m := &Members{e: e, faces: faces, found: make(map[string]mention), met: make(map[string]struct{})}
	if _, isKnown := e.Under(t); isKnown {
		m.addUnmet(m.holdersOf(t, holder{by: none}))
	}
	return m
}

// Find is the one of that name at the least depth where there is any.
func (m *Members) Find(name string) (api.Field, bool) {
	x, t := m.one(name)
	if t.Kind == api.KNone {
		return api.Field{}, false
	}
	return api.Field{Method: x.isMethod(), Ptr: x.isPtr, Path: m.pathOf(x), Type: t}, true
}

// Method is the type of the method of that name, if there is one in the method set.
func (m *Members) Method(name string) (api.Type, bool) {
	x, t := m.one(name)
	if t.Kind == api.KNone || !x.isMethod() || x.isPtr && !m.holders[x.holder].isPointedAt {
		return api.Type{}, false
	}
	return t, true
}

// Missing is the first of these names that no method in the method set has with the type beside it; empty if there is none.
func (m *Members) Missing(names []string, sigs []api.Type) string {
	for i, name := range names {
		if sig, isIn := m.Method(name); !isIn || !types.Eq(sig, sigs[i]) {
			return name
		}
	}
	return ""
}

// one is what the name means and its type; a zero Type, if that is nothing, or more than one.
func (m *Members) one(name string) (mention, api.Type) {
	for m.open < len(m.holders) && m.found[name].count == 0 {
		m.goDeeper()
	}
	x := m.found[name]
	if x.count != 1 {
		return mention{}, api.Type{}
	}
	return x, m.typeOf(x)
}

// Names are those of all members, also of such as are more than one at their depth, in the order of their bytes.
func (m *Members) Names() []string {
	for m.open < len(m.holders) {
		m.goDeeper()
	}
	return slices.Sorted(maps.Keys(m.found))
}
