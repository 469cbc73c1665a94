package typeset

import (
	"sterling/api"
	"sterling/env"
)

// comparing asks whether a type, which is known, is comparable.
type comparing struct {
	e          *env.Env
	isStrictly bool
	fails      bool
	// faces are the interfaces that are met and that may be constraints.
	faces []api.Type
}

func isComparable(e *env.Env, t api.Type, isStrictly bool) bool {
	c := comparing{e: e, isStrictly: isStrictly}
	goOver(c.parts(t), c.beneath)
	return !c.fails && !hasConstraint(e, c.faces)
}

// parts are the declared types and type parameters that t's being comparable hangs on.
func (c *comparing) parts(t api.Type) []api.Type {
	switch t.Kind {
	case api.KNamed, api.KParam:
		return []api.Type{t}
	case api.KArray, api.KStruct:
		return c.partsOfAll(t.Args)
	case api.KInterface:
		c.fails = c.fails || c.isStrictly
		if len(t.Sets) > 0 {
			c.faces = append(c.faces, t)
		}
	case api.KBasic, api.KPointer, api.KNil:
	default:
		c.fails = true
	}
	return nil
}

func (c *comparing) partsOfAll(list []api.Type) []api.Type {
	var all []api.Type
	for _, t := range list {
		all = append(all, c.parts(t)...)
	}
	return all
}

// beneath are the parts of what is beneath a declared type, or in a type parameter's set.
func (c *comparing) beneath(t api.Type) []api.Type {
	if c.fails {
		return nil
	}
	if t.Kind == api.KParam {
		return c.partsOfSet(t)
	}
	under, has := c.e.Under(t)
	if !has || t.Name == comparableName {
		c.fails = true
		return nil
	}
	return c.parts(under)
}

func (c *comparing) partsOfSet(param api.Type) []api.Type {
	s, isSet := setOf(c.e, param)
	if s.asksComparable {
		return nil
	}
	u := newTeller(c.e).meetAll(s.unions)
	if !isSet || u.isAll {
		c.fails = true
		return nil
	}
	var all []api.Type
	for _, x := range u.terms {
		all = append(all, c.parts(x.Type)...)
	}
	return all
}
