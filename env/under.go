package env

import (
	"sterling/api"
	"sterling/subst"
	"sterling/types"
)

// Under is t's underlying type.
func (e *Env) Under(t api.Type) (api.Type, bool) {
	known := e.orBare()
	if !known.isKnown(t) {
		return api.Type{}, false
	}
	if t.Kind != api.KNamed {
		return types.Clone(t), true
	}
	return known.follow(t)
}

// follow goes from t, which is known, to what it stands for, until that is no declared type.
func (e *Env) follow(t api.Type) (api.Type, bool) {
	met := make(map[string]struct{})
	for t.Kind == api.KNamed {
		if _, isMet := met[t.Name]; isMet {
			return api.Type{}, false
		}
		met[t.Name] = struct{}{}
		place, _ := e.place(t.Name)
		d := e.decls[place].Decl
		t = subst.Put(d.Under, paramNames(d), t.Args)
	}
	return t, t.Kind != api.KNone
}

// Holds tells whether t has an underlying type, and no way from the declared types that it holds comes back to one that
// it went on from.
func (e *Env) Holds(t api.Type) bool {
	if _, hasUnder := e.Under(t); !hasUnder {
		return false
	}
	known := e.orBare()
	ends := true
	eachHeld(t, func(name string) {
		place, _ := known.place(name)
		ends = ends && !known.decls[place].isEndless
	})
	return ends
}

// eachHeld shows the names of the declared types that t holds: what stands behind a pointer, a slice, a map, a function or
// an interface is not held.
func eachHeld(t api.Type, see func(name string)) {
	switch t.Kind {
	case api.KPointer, api.KSlice, api.KMap, api.KFunc, api.KInterface:
		return
	case api.KNamed:
		see(t.Name)
	}
	for _, arg := range t.Args {
		eachHeld(arg, see)
	}
}

// markEndless marks the declared types from which a way goes on without an end, that is, into a ring: all but those that
// hold only such as are known to end.
func (e *Env) markEndless() {
	holders := make([][]int, len(e.decls))
	unknown := make([]int, len(e.decls))
	for i, d := range e.decls {
		e.decls[i].isEndless = true
		eachHeld(d.Under, func(name string) {
			place, _ := e.place(name)
			holders[place] = append(holders[place], i)
			unknown[i]++
		})
	}
	var ending []int
	for i, count := range unknown {
		if count == 0 {
			ending = append(ending, i)
		}
	}
	for len(ending) > 0 {
		last := len(ending) - 1
		place := ending[last]
		ending = ending[:last]
		e.decls[place].isEndless = false
		for _, holder := range holders[place] {
			unknown[holder]--
			if unknown[holder] == 0 {
				ending = append(ending, holder)
			}
		}
	}
}
