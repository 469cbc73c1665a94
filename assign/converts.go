package assign

import (
	"sterling/api"
)

// converts tells whether x may be converted to y. (nil is no value of a type parameter, whatever types stand in its set.)
func (q *question) converts(x, y *operand) bool {
	return q.convertsItself(x, y) || !x.is(api.KNil) && q.areAll(x, y, q.convertsItself)
}

// convertsItself tells whether x may be converted to y, whatever types stand in their sets.
func (q *question) convertsItself(x, y *operand) bool {
	switch {
	case q.mayItself(x, y):
		return true
	case x.is(api.KVoid) || x.is(api.KNil) || q.isNoVariable(y):
		return false
	case x.is(api.KUntyped) && !q.isOfUntyped(x):
		return false
	case q.c.Kind != api.CNone && y.under.Kind == api.KBasic:
		return q.fits(x) && q.fits(y)
	case x.pointed != noPointed && x.pointed == y.pointed:
		return true
	case isText(x) && y.areBytes || x.areBytes && isText(y):
		return true
	}
	return x.beneath == y.beneath || x.isNumber && y.isNumber
}

// isText tells whether x is a type of strings, or that of a constant one.
func isText(x *operand) bool {
	return isBasic(x.under, "string") || x.is(api.KUntyped) && x.t.Name == "string"
}
