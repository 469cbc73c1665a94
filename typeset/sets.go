package typeset

import (
	"slices"
	"strings"

	"sterling/api"
	"sterling/env"
	"sterling/numbers"
	"sterling/types"
)

// comparableName is that of the interface which asks for comparable.
const comparableName = "comparable"

// set is what an interface and all that it embeds have.
type set struct {
	e              *env.Env
	methods        []method
	unions         [][]api.Term
	asksComparable bool
}

type method struct {
	name string
	sig  api.Type
}

// setOf is the set of an interface, or of a type parameter's constraint; false if t is none of these.
func setOf(e *env.Env, t api.Type) (set, bool) {
	if _, isKnown := e.Under(t); !isKnown {
		return set{}, false
	}
	if t.Kind == api.KParam {
		constraint, isThere := e.Constraint(t.Name)
		if !isThere {
			return set{}, false
		}
		return constraintSet(e, constraint), true
	}
	if !isInterface(e, t) {
		return set{}, false
	}
	return gathered(e, t), true
}

// constraintSet is the set of c: if it is no interface, it is the union of itself alone.
func constraintSet(e *env.Env, c api.Type) set {
	if isInterface(e, c) {
		return gathered(e, c)
	}
	return set{e: e, unions: [][]api.Term{{{Type: c}}}}
}

// gathered is the set of an interface; of several ones, what they have together.
func gathered(e *env.Env, faces ...api.Type) set {
	s := set{e: e}
	var declared []api.Type
	for _, t := range faces {
		declared = append(declared, s.embed(t)...)
	}
	goOver(declared, s.takeDeclared)
	return s
}

// embed takes what t, an interface, has itself; and answers those that are declared and that it leads to.
func (s *set) embed(t api.Type) []api.Type {
	if t.Kind == api.KNamed {
		return []api.Type{t}
	}
	for i, name := range t.Names {
		s.methods = append(s.methods, method{name, t.Args[i]})
	}
	var declared []api.Type
	for _, terms := range t.Sets {
		if isEmbedding(s.e, terms) {
			declared = append(declared, s.embed(terms[0].Type)...)
		} else {
			s.unions = append(s.unions, terms)
		}
	}
	return declared
}

func (s *set) takeDeclared(t api.Type) []api.Type {
	if t.Name == comparableName {
		s.asksComparable = true
		return nil
	}
	under, has := s.e.Under(t)
	// What an interface stands for may not be if its arguments have grown too great.
	if !has {
		panic(endless{})
	}
	return s.embed(under)
}

// isEmbedding tells whether a union embeds an interface.
func isEmbedding(e *env.Env, terms []api.Term) bool {
	return len(terms) == 1 && !terms[0].Tilde && isInterface(e, terms[0].Type)
}

func isInterface(e *env.Env, t api.Type) bool { return kindBeneath(e, t) == api.KInterface }

// kindBeneath is the Kind of t's underlying type, also of one that is too great: it doesn't hang on t's arguments. It is
// KNone if there is none.
func kindBeneath(e *env.Env, t api.Type) int { return declaredBeneath(e, t).Kind }

// declaredBeneath is t's underlying type as its declaration has it: without arguments put for parameters.
func declaredBeneath(e *env.Env, t api.Type) api.Type {
	met := make(map[string]struct{})
	for t.Kind == api.KNamed {
		if _, isMet := met[t.Name]; isMet {
			return api.Type{}
		}
		met[t.Name] = struct{}{}
		d, _ := e.Decl(t.Name)
		t = d.Under
	}
	return t
}

// isConstraint tells whether an interface with that set may stand only as a constraint.
func (s set) isConstraint() bool { return len(s.unions) > 0 || s.asksComparable }

// mostPut is how many declared types are gone to with arguments put for parameters, to tell a constraint.
const mostPut = api.MaxSize

// hasConstraint tells whether one of these interfaces may stand only as a constraint. Each one that they embed is gone to
// once, the nearest first: what embeds itself hides nothing that stands beside it.
func hasConstraint(e *env.Env, faces []api.Type) bool {
	met := numbers.New()
	for left := slices.Clone(faces); len(left) > 0; left = left[1:] {
		s := set{e: e}
		for _, t := range s.embed(left[0]) {
			if t.Name == comparableName {
				return true
			}
			if number, isNew := met.Of(t); isNew {
				left = append(left, standsFor(e, t, number < mostPut))
			}
		}
		if s.isConstraint() {
			return true
		}
	}
	return false
}

// standsFor is the interface that t is declared as: as the declaration has it, if it is too great with t's arguments or they
// are not wanted. Whether it may stand only as a constraint doesn't hang on them, as its unions are of no parameters.
func standsFor(e *env.Env, t api.Type, withArgs bool) api.Type {
	if under, has := e.Under(t); withArgs && has {
		return under
	}
	return declaredBeneath(e, t)
}

// methodsOnce are the methods by rising names, each once; false if two of one name have types that are not Eq.
func (s set) methodsOnce() (names []string, sigs []api.Type, agree bool) {
	slices.SortStableFunc(s.methods, func(a, b method) int { return strings.Compare(a.name, b.name) })
	for _, m := range s.methods {
		last := len(names) - 1
		if last < 0 || names[last] != m.name {
			names = append(names, m.name)
			sigs = append(sigs, types.Clone(m.sig))
		} else if !types.Eq(sigs[last], m.sig) {
			return nil, nil, false
		}
	}
	return names, sigs, true
}
