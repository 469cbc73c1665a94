package typeset

import (
	"sterling/api"
	"sterling/env"
	"sterling/types"
)

// satisfies is of types that are known.
func satisfies(e *env.Env, t, c api.Type) bool {
	asked := constraintSet(e, c)
	switch {
	case t.Kind == api.KParam:
		return doesParamSatisfy(e, t, asked)
	case isInterface(e, t):
		return doesInterfaceSatisfy(e, t, asked)
	}
	return isIn(e, t, asked) && asked.isWithMethods(func() map[string]api.Type { return methodSet(e, t) }) &&
		(!asked.asksComparable || isComparable(e, t, false))
}

func doesParamSatisfy(e *env.Env, t api.Type, asked set) bool {
	own, isKnown := setOf(e, t)
	return isKnown && isWithin(e, own, asked) && asked.isWithMethods(own.methodSet) &&
		(!asked.asksComparable || isComparable(e, t, true))
}

// doesInterfaceSatisfy doesn't ask whether t is comparable: it is, if it is no constraint.
func doesInterfaceSatisfy(e *env.Env, t api.Type, asked set) bool {
	own := gathered(e, t)
	return !own.isConstraint() && len(asked.unions) == 0 && asked.isWithMethods(own.methodSet)
}

// isIn tells whether t, which has no set, is in each of asked's unions.
func isIn(e *env.Env, t api.Type, asked set) bool {
	teller := newTeller(e)
	return teller.meetAll(asked.unions).holds(teller.plainTerm(t))
}

// isWithin tells whether each of own's terms is in one of asked's.
func isWithin(e *env.Env, own, asked set) bool {
	teller := newTeller(e)
	return teller.meetAll(asked.unions).holdsAll(teller.meetAll(own.unions))
}

// isWithMethods tells whether s's methods are all among those that of gives, which is asked only if there are any.
func (s set) isWithMethods(of func() map[string]api.Type) bool {
	if len(s.methods) == 0 {
		return true
	}
	names, sigs, agree := s.methodsOnce()
	if !agree {
		return false
	}
	has := of()
	for i, name := range names {
		if !types.Eq(has[name], sigs[i]) {
			return false
		}
	}
	return true
}

// methodSet are the types of the methods by their names; none if they don't agree.
func (s set) methodSet() map[string]api.Type {
	names, sigs, _ := s.methodsOnce()
	all := make(map[string]api.Type, len(names))
	for i, name := range names {
		all[name] = sigs[i]
	}
	return all
}
