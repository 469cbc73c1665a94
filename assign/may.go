package assign

import (
	"sterling/api"
	"sterling/constant"
	"sterling/lookup"
	"sterling/typeset"
)

// may tells whether x may be assigned to y.
func (q *question) may(x, y *operand) bool {
	return q.mayItself(x, y) || goesBySet(x, y) && q.areAll(x, y, q.mayItself)
}

// goesBySet tells whether one is a type parameter to or from which the other may be assigned as to or from its set's types.
func goesBySet(x, y *operand) bool {
	return x.is(api.KParam) && !y.hasName() || y.is(api.KParam) && !x.hasName() && !x.is(api.KNil)
}

// mayItself tells whether x may be assigned to y, whatever types stand in their sets.
func (q *question) mayItself(x, y *operand) bool {
	switch {
	case x.is(api.KVoid) || q.isNoVariable(y):
		return false
	case x.is(api.KNil):
		return isNilable(y)
	case x.is(api.KUntyped):
		return q.mayConstant(x, y)
	case x.number == y.number:
		return true
	case y.under.Kind == api.KInterface && lookup.Implements(q.e, x.t, y.t):
		return true
	}
	// Type parameters are beneath themselves alone.
	return x.beneath == y.beneath && !(x.hasName() && y.hasName())
}

// isNoVariable tells whether no variable is of type x.
func (q *question) isNoVariable(x *operand) bool {
	switch x.under.Kind {
	case api.KNil, api.KUntyped, api.KVoid:
		return true
	case api.KInterface:
		return typeset.Constraint(q.e, x.t)
	}
	return false
}

// isNilable tells whether nil is a value of x.
func isNilable(x *operand) bool {
	switch x.under.Kind {
	case api.KPointer, api.KFunc, api.KSlice, api.KMap, api.KInterface:
		return true
	}
	return false
}

// mayConstant tells whether the constant, of the untyped type x, may be assigned to y, which is no type parameter.
func (q *question) mayConstant(x, y *operand) bool {
	switch {
	case !q.isOfUntyped(x):
		return false
	case y.under.Kind == api.KInterface:
		byDefault := Default(x.t)
		return q.fitsIn(byDefault) && lookup.Implements(q.e, byDefault, y.t)
	}
	return q.fits(y)
}

// isOfUntyped tells whether the constant is of the kind that goes with x, an untyped type.
func (q *question) isOfUntyped(x *operand) bool {
	switch x.t.Name {
	case "bool":
		return q.c.Kind == api.CBool
	case "string":
		return q.c.Kind == api.CString
	case "int":
		return q.c.Kind == api.CInt
	}
	return q.c.Kind == api.CFloat
}

// fits tells whether the constant is representable in x.
func (q *question) fits(x *operand) bool { return q.fitsIn(x.under) }

// fitsIn tells whether the constant is representable in t, an underlying type: no other than a basic one.
func (q *question) fitsIn(t api.Type) bool {
	_, fits := constant.Fits(q.c, t.Name)
	return t.Kind == api.KBasic && fits
}
