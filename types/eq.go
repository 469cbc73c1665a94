package types

import (
	"cmp"
	"slices"
	"strings"

	"sterling/api"
)

// Eq tells whether a and b are identical; none is to one that may not be. Texts are not held against each other: that
// of a method called `func` is the same as that of a union of one function.
func Eq(a, b api.Type) bool {
	return May(a) && May(b) && compareTypes(settled(a), settled(b)) == 0
}

// settled is t, which may be, with the unions of each interface and their terms in one order and each once: two types
// are identical if they are the same then. (Unions that are held against each other term by term, both ways, would take
// too long where they stand in others.) It shares t's memory where it is the same.
func settled(t api.Type) api.Type {
	t.Args = mapped(t.Args, settled)
	t.Sets = mapped(t.Sets, settledUnion)
	slices.SortFunc(t.Sets, compareUnions)
	t.Sets = slices.CompactFunc(t.Sets, areSameUnions)
	return t
}

func settledUnion(union []api.Term) []api.Term {
	terms := mapped(union, settledTerm)
	slices.SortFunc(terms, compareTerms)
	return slices.CompactFunc(terms, areSameTerms)
}

func settledTerm(t api.Term) api.Term {
	return api.Term{Tilde: t.Tilde, Type: settled(t.Type)}
}

// mapped is a new list of what of gives of each element.
func mapped[A, B any](list []A, of func(A) B) []B {
	answers := make([]B, 0, len(list))
	for _, element := range list {
		answers = append(answers, of(element))
	}
	return answers
}

// compareTypes is some order of settled types, in which those that are the same are equal.
func compareTypes(a, b api.Type) int {
	return cmp.Or(
		cmp.Compare(a.Kind, b.Kind),
		strings.Compare(a.Name, b.Name),
		cmp.Compare(a.Len, b.Len),
		slices.Compare(a.Names, b.Names),
		slices.CompareFunc(a.Emb, b.Emb, compareTruths),
		slices.CompareFunc(a.Args, b.Args, compareTypes),
		slices.CompareFunc(a.Sets, b.Sets, compareUnions),
	)
}

func compareUnions(a, b []api.Term) int {
	return slices.CompareFunc(a, b, compareTerms)
}

func compareTerms(a, b api.Term) int {
	return cmp.Or(compareTruths(a.Tilde, b.Tilde), compareTypes(a.Type, b.Type))
}

func compareTruths(a, b bool) int {
	switch {
	case a == b:
		return 0
	case b:
		return -1
	}
	return 1
}

func areSameUnions(a, b []api.Term) bool { return compareUnions(a, b) == 0 }

func areSameTerms(a, b api.Term) bool { return compareTerms(a, b) == 0 }
