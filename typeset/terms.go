package typeset

import (
	"cmp"
	"slices"
	"strings"

	"sterling/api"
	"sterling/env"
	"sterling/numbers"
	"sterling/types"
)

// teller tells terms apart by the numbers of their types.
type teller struct {
	e       *env.Env
	numbers *numbers.Numbers
}

func newTeller(e *env.Env) teller { return teller{e, numbers.New()} }

// term has the numbers of its type and of the one beneath that. With Tilde both are one: its type is an underlying one.
type term struct {
	api.Term
	number, under int
}

// noNumber is that of an underlying type that there isn't.
const noNumber = -1

// union is terms none of whose types is in another one; or all types.
type union struct {
	teller
	isAll        bool
	terms        []term
	plain, tilde map[int]struct{}
}

func (t teller) newUnion() union {
	return union{teller: t, plain: make(map[int]struct{}), tilde: make(map[int]struct{})}
}

// meetAll is what is in each of the unions.
func (t teller) meetAll(unions [][]api.Term) union {
	all := union{teller: t, isAll: true}
	for _, list := range unions {
		all = all.meet(t.unionOf(list))
	}
	return all
}

// unionOf adds the terms with Tilde ahead of the others, which may be in them.
func (t teller) unionOf(list []api.Term) union {
	u := t.newUnion()
	for _, x := range list {
		if x.Tilde {
			u.addTilde(x.Type)
		}
	}
	for _, x := range list {
		if !x.Tilde {
			u.add(t.plainTerm(x.Type))
		}
	}
	return u
}

// addTilde puts in the term with Tilde of that type, which has no types if nothing is beneath it.
func (u *union) addTilde(x api.Type) {
	if under, has := u.e.Under(x); has {
		number, _ := u.numbers.Of(under)
		u.add(term{api.Term{Tilde: true, Type: under}, number, number})
	}
}

// plainTerm is the term without Tilde of that type.
func (t teller) plainTerm(x api.Type) term {
	number, _ := t.numbers.Of(x)
	beneath := noNumber
	if under, has := t.e.Under(x); has {
		beneath, _ = t.numbers.Of(under)
	}
	return term{api.Term{Type: x}, number, beneath}
}

// add puts in x, if its types are not in u yet.
func (u *union) add(x term) {
	if u.holds(x) {
		return
	}
	u.terms = append(u.terms, x)
	if x.Tilde {
		u.tilde[x.number] = struct{}{}
	} else {
		u.plain[x.number] = struct{}{}
	}
}

// holds tells whether all of x's types are in one of u's terms.
func (u union) holds(x term) bool {
	if _, isBeneath := u.tilde[x.under]; u.isAll || isBeneath {
		return true
	}
	_, isThere := u.plain[x.number]
	return isThere && !x.Tilde
}

// holdsAll tells whether all of v's types are in u.
func (u union) holdsAll(v union) bool {
	isOutside := func(x term) bool { return !u.holds(x) }
	return u.isAll || !v.isAll && !slices.ContainsFunc(v.terms, isOutside)
}

// meet is what is in both: of two terms that have types in common one holds the other one.
func (u union) meet(v union) union {
	if u.isAll {
		return v
	}
	both := u.newUnion()
	for _, x := range u.terms {
		if v.holds(x) {
			both.add(x)
		}
	}
	for _, x := range v.terms {
		if u.holds(x) {
			both.add(x)
		}
	}
	return both
}

// told are the terms in the order in which they are told, in memory of their own.
func (u union) told() []api.Term {
	slices.SortStableFunc(u.terms, func(a, b term) int {
		return cmp.Or(compareTilde(a, b), strings.Compare(u.numbers.Text(a.number), u.numbers.Text(b.number)))
	})
	var told []api.Term
	for _, x := range u.terms {
		told = append(told, api.Term{Tilde: x.Tilde, Type: types.Clone(x.Type)})
	}
	return told
}

func compareTilde(a, b term) int {
	switch {
	case a.Tilde == b.Tilde:
		return 0
	case b.Tilde:
		return -1
	}
	return 1
}

// underlying is the one that all types in u have.
func (u union) underlying() (api.Type, bool) {
	if len(u.terms) == 0 {
		return api.Type{}, false
	}
	first := u.terms[0].under
	for _, x := range u.terms {
		if x.under == noNumber || x.under != first {
			return api.Type{}, false
		}
	}
	return types.Clone(u.numbers.Type(first)), true
}
