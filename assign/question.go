package assign

import (
	"sterling/api"
	"sterling/constant"
	"sterling/env"
	"sterling/numbers"
	"sterling/types"
	"sterling/typeset"
)

// question is what is asked: of a value of the type from, whose constant c is, and of the type to.
type question struct {
	e        *env.Env
	numbers  *numbers.Numbers
	c        api.Const
	from, to *operand
}

// operand is a type and what is asked of it again and again, as often as there are types in the other one's set.
type operand struct {
	t, under api.Type
	// number and beneath are those of t and of under.
	number, beneath int
	// pointed is the number of the type beneath that which t points to.
	pointed            int
	isNumber, areBytes bool
}

// noPointed is the number of what a type points to that is no pointer by itself.
const noPointed = -1

// newQuestion is false at the end if c may not be, or if e doesn't know the types.
func newQuestion(e *env.Env, c api.Const, from, to api.Type) (*question, bool) {
	c, may := admit(c)
	_, isFromKnown := e.Under(from)
	_, isToKnown := e.Under(to)
	if !may || !isFromKnown || !isToKnown {
		return nil, false
	}
	q := &question{e: e, c: c, numbers: numbers.New()}
	q.from, q.to = q.operand(from), q.operand(to)
	return q, true
}

// admit is c, a number in lowest terms, as it may be asked for again and again; false if c is a constant that may not be.
func admit(c api.Const) (api.Const, bool) {
	if c.Kind == api.CNone {
		return api.Const{}, true
	}
	if number, isNumber := constant.Unary("+", c); isNumber {
		return number, true
	}
	return c, constant.Default(c) != ""
}

func (q *question) operand(t api.Type) *operand {
	under, _ := q.e.Under(t)
	x := &operand{t: t, under: under, pointed: noPointed, isNumber: types.Numeric(under)}
	x.number, _ = q.numbers.Of(t)
	x.beneath, _ = q.numbers.Of(under)
	switch {
	case t.Kind == api.KPointer:
		base, _ := q.e.Under(t.Args[0])
		x.pointed, _ = q.numbers.Of(base)
	case under.Kind == api.KSlice:
		element, _ := q.e.Under(under.Args[0])
		x.areBytes = isBasic(element, "uint8")
	}
	return x
}

func isBasic(t api.Type, name string) bool { return t.Kind == api.KBasic && t.Name == name }

func (x *operand) is(kind int) bool { return x.t.Kind == kind }

// hasName tells whether x is declared, a basic type, or a type parameter.
func (x *operand) hasName() bool { return x.is(api.KNamed) || x.is(api.KBasic) || x.is(api.KParam) }

// areAll tells whether each type that x stands for is so with each one that y stands for. It is false if there are none.
func (q *question) areAll(x, y *operand, are func(x, y *operand) bool) bool {
	from, to := q.typesOf(x), q.typesOf(y)
	for _, a := range from {
		for _, b := range to {
			if !are(a, b) {
				return false
			}
		}
	}
	return len(from) > 0 && len(to) > 0
}

// typesOf are the types that x stands for: those in its set if x is a type parameter (none if all are), or else x itself.
// A type parameter in a set, which may not stand there, stands for its own ones.
func (q *question) typesOf(x *operand) []*operand {
	if !x.is(api.KParam) {
		return []*operand{x}
	}
	var all []*operand
	met := map[string]struct{}{x.t.Name: {}}
	for left := []api.Type{x.t}; len(left) > 0; left = left[1:] {
		terms, isAll, _ := typeset.Terms(q.e, left[0])
		if isAll {
			return nil
		}
		for _, term := range terms {
			if term.Type.Kind != api.KParam {
				all = append(all, q.operand(term.Type))
			} else if _, isMet := met[term.Type.Name]; !isMet {
				met[term.Type.Name] = struct{}{}
				left = append(left, term.Type)
			}
		}
	}
	return all
}
