package assign

import (
	"slices"

	"sterling/api"
	"sterling/typeset"
)

// isComparable tells whether values of x and y, one of which may be assigned to the other, may be the same. (What nil may be
// assigned to may be held against it.)
func (q *question) isComparable(x, y *operand) bool {
	return x.is(api.KNil) || y.is(api.KNil) || typeset.Comparable(q.e, x.t) && typeset.Comparable(q.e, y.t)
}

// isOrdered tells whether all types that x stands for, one at the least, are of numbers or strings.
func (q *question) isOrdered(x *operand) bool {
	all := q.typesOf(x)
	isUnordered := func(x *operand) bool { return !x.isNumber && !isBasic(x.under, "string") }
	return len(all) > 0 && !slices.ContainsFunc(all, isUnordered)
}
