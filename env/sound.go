package env

import (
	"slices"
	"strings"

	"sterling/api"
	"sterling/types"
)

// isSound tells whether what is declared is as it must be.
func (e *Env) isSound() bool {
	params := listed(e.params, func(p api.Var) string { return p.Name })
	return areApart(e.Names()) && areApart(params) && areAll(e.decls, e.admitsDecl) && areAll(e.params, e.admitsParam)
}

// areApart tells whether no name is empty or stands twice. They rise.
func areApart(names []string) bool {
	for i, name := range names {
		if name == "" || i > 0 && names[i-1] == name {
			return false
		}
	}
	return true
}

func areAll[T any](list []T, is func(T) bool) bool {
	return !slices.ContainsFunc(list, func(element T) bool { return !is(element) })
}

func (e *Env) admitsDecl(d declared) bool {
	admits := func(t api.Type) bool { return e.isKnown(t) && hasNoOtherParams(t, d.Decl) }
	admitsMethod := func(m api.Method) bool { return isName(m.Name) && m.Sig.Kind == api.KFunc && admits(m.Sig) }
	methods := listed(d.Methods, func(m api.Method) string { return m.Name })
	slices.Sort(methods)
	return d.Under.Kind != api.KParam && admits(d.Under) && areAll(d.Params, admits) &&
		areApart(methods) && areAll(d.Methods, admitsMethod)
}

func (e *Env) admitsParam(p api.Var) bool {
	return !strings.Contains(p.Name, mark) && e.isKnown(p.Type)
}

// isKnown tells whether t may be, and all declared types in it are there, with as many arguments as they have parameters.
func (e *Env) isKnown(t api.Type) bool {
	return types.May(t) && isThroughout(t, func(part api.Type) bool {
		if part.Kind != api.KNamed {
			return true
		}
		place, isThere := e.place(part.Name)
		return isThere && len(e.decls[place].Params) == len(part.Args)
	})
}

// hasNoOtherParams tells whether t, which may be, has no parameters but d's.
func hasNoOtherParams(t api.Type, d api.Decl) bool {
	return isThroughout(t, func(part api.Type) bool {
		if part.Kind != api.KParam {
			return true
		}
		owner, number, isOwned := ownedParam(part.Name)
		return isOwned && owner == d.Name && number < len(d.Params)
	})
}

// isThroughout tells whether t, which may be, and all types in it are so.
func isThroughout(t api.Type, is func(api.Type) bool) bool {
	if !is(t) {
		return false
	}
	isInside := func(part api.Type) bool { return isThroughout(part, is) }
	isInTerm := func(term api.Term) bool { return isInside(term.Type) }
	isInUnion := func(union []api.Term) bool { return areAll(union, isInTerm) }
	return areAll(t.Args, isInside) && areAll(t.Sets, isInUnion)
}

// isName tells whether s is a name or a word: fields may be named by those alone.
func isName(s string) bool {
	field := api.Type{Kind: api.KStruct, Names: []string{s}, Emb: []bool{false}, Args: []api.Type{types.Basic("int")}}
	return types.May(field)
}
