package constant

import (
	"strings"

	"sterling/api"
	"sterling/bigint"
	"sterling/ratio"
)

// Unary is op a; false if there is no such operation, or its answer may not be.
func Unary(op string, a api.Const) (api.Const, bool) {
	a = admit(a)
	switch {
	case op == "!" && a.Kind == api.CBool:
		return ofBool(!a.Bool), true
	case op == "^" && a.Kind == api.CInt:
		return binaryInt(op, bigint.Of(-1), wholeOf(a))
	case (op == "+" || op == "-") && isNumber(a):
		// As 0 + a and 0 - a.
		number, ok := calculateFloat(op, api.Rat{}, a.Num)
		return ofNumber(a.Kind, number, ok)
	}
	return api.Const{}, false
}

// Binary is a op b; false if there is no such operation, or its answer may not be.
func Binary(op string, a, b api.Const) (api.Const, bool) {
	a, b = admit(a), admit(b)
	switch commonKind(a, b) {
	case api.CBool:
		return binaryBool(op, a.Bool, b.Bool)
	case api.CString:
		return ofText(a.Text+b.Text, op == "+")
	case api.CInt:
		return binaryInt(op, wholeOf(a), wholeOf(b))
	case api.CFloat:
		number, ok := calculateFloat(op, a.Num, b.Num)
		return ofNumber(api.CFloat, number, ok)
	}
	return api.Const{}, false
}

// commonKind is the kind as which a and b, both admitted, are operands of one operation; CNone if they are not.
func commonKind(a, b api.Const) int {
	switch {
	case a.Kind == b.Kind:
		return a.Kind
	case isNumber(a) && isNumber(b):
		return api.CFloat
	}
	return api.CNone
}

func binaryBool(op string, a, b bool) (api.Const, bool) {
	switch op {
	case "&&":
		return ofBool(a && b), true
	case "||":
		return ofBool(a || b), true
	}
	return api.Const{}, false
}

func binaryInt(op string, a, b api.Big) (api.Const, bool) {
	number, ok := calculateInt(op, a, b)
	return ofNumber(api.CInt, ratio.Whole(number), ok)
}

func calculateInt(op string, a, b api.Big) (api.Big, bool) {
	switch op {
	case "+":
		return bigint.Add(a, b), true
	case "-":
		return bigint.Sub(a, b), true
	case "*":
		return bigint.Mul(a, b), true
	case "/":
		quotient, _, ok := bigint.Quo(a, b)
		return quotient, ok
	case "%":
		_, rest, ok := bigint.Quo(a, b)
		return rest, ok
	}
	return bigint.Bitwise(op, a, b)
}

func calculateFloat(op string, a, b api.Rat) (api.Rat, bool) {
	switch op {
	case "+":
		return ratio.Add(a, b), true
	case "-":
		return ratio.Sub(a, b), true
	case "*":
		return ratio.Mul(a, b), true
	case "/":
		return ratio.Quo(a, b)
	}
	return api.Rat{}, false
}

// Compare is the truth of a op b; false, false if the two can't be compared so.
func Compare(op string, a, b api.Const) (bool, bool) {
	a, b = admit(a), admit(b)
	switch commonKind(a, b) {
	case api.CBool:
		return compareBools(op, a.Bool, b.Bool)
	case api.CString:
		return judge(op, strings.Compare(a.Text, b.Text))
	case api.CInt, api.CFloat:
		return judge(op, ratio.Cmp(a.Num, b.Num))
	}
	return false, false
}

func compareBools(op string, a, b bool) (bool, bool) {
	switch op {
	case "==":
		return a == b, true
	case "!=":
		return a != b, true
	}
	return false, false
}

// judge is the truth of op, where order is -1, 0 or 1: the left one is below, equal to or above the right one.
func judge(op string, order int) (bool, bool) {
	switch op {
	case "==":
		return order == 0, true
	case "!=":
		return order != 0, true
	case "<":
		return order < 0, true
	case "<=":
		return order <= 0, true
	case ">":
		return order > 0, true
	case ">=":
		return order >= 0, true
	}
	return false, false
}

// Eq tells whether a and b are of one kind and one value; what may not be is equal to nothing.
func Eq(a, b api.Const) bool {
	same, ok := Compare("==", a, b)
	return ok && same && a.Kind == b.Kind
}
