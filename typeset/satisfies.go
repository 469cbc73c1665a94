package typeset

import (
	"sterling/api"
	"sterling/env"
	"sterling/members"
)

// satisfies is of types that are known.
func satisfies(e *env.Env, t, c api.Type) bool {
	asked := constraintSet(e, c)
	switch {
	case t.Kind == api.KParam:
		return doesParamSatisfy(e, t, asked)
	case isInterface(e, t):
		return doesInterfaceSatisfy(e, t, asked)
	}
	return isIn(e, t, asked) && asked.areMethodsOf(t) &&
		(!asked.asksComparable || isComparable(e, t, false))
}

func doesParamSatisfy(e *env.Env, t api.Type, asked set) bool {
	own, isKnown := setOf(e, t)
	return isKnown && isWithin(e, own, asked) && asked.areMethodsOf(t) &&
		(!asked.asksComparable || isComparable(e, t, true))
}

// doesInterfaceSatisfy doesn't ask whether t is comparable: it is, if it is no constraint.
func doesInterfaceSatisfy(e *env.Env, t api.Type, asked set) bool {
	own := gathered(e, t)
	return !own.isConstraint() && len(asked.unions) == 0 && asked.areMethodsOf(t)
}

// isIn tells whether t, which has no set, is in each of asked's unions.
func isIn(e *env.Env, t api.Type, asked set) bool {
	teller := newTeller(e)
	return teller.meetAll(asked.unions).holds(teller.plainTerm(t))
}

// isWithin tells whether each of own's terms is in one of asked's.
func isWithin(e *env.Env, own, asked set) bool {
	teller := newTeller(e)
	return teller.meetAll(asked.unions).holdsAll(teller.meetAll(own.unions))
}

// areMethodsOf tells whether t has all of s's methods.
func (s set) areMethodsOf(t api.Type) bool {
	names, sigs, agree := s.methodsOnce()
	return agree && members.Of(s.e, t, Methods).Missing(names, sigs) == ""
}
