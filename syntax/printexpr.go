package syntax

import "sterling/api"

// expression is what the text of a node is made of; nodes that are no expressions are handed on.
func expression(n api.Node) parts {
	first, second := kid(n, 0), kid(n, 1)
	switch n.Kind {
	case api.NName, api.NInt, api.NFloat, api.NString:
		return parts{n.Text}
	case api.NDot:
		return parts{aheadOfPoint(first), ".", n.Text}
	case api.NAssert:
		return parts{aheadOfPoint(first), ".(", second, ")"}
	case api.NIndex:
		return parts{first, "[", commas(kidsFrom(n, 1)), "]"}
	case api.NCall:
		return parts{first, "(", arguments(n), ")"}
	case api.NUnary:
		return parts{n.Text, aheadOfSign(first), first}
	case api.NBinary:
		return parts{first, " ", n.Text, " ", second}
	case api.NParen:
		return parts{"(", first, ")"}
	case api.NLit:
		return parts{first, "{", commas(kidsFrom(n, 1)), "}"}
	case api.NKey:
		return parts{first, ": ", second}
	case api.NFuncLit:
		return parts{first, " ", second}
	}
	return typeForm(n)
}

func typeForm(n api.Node) parts {
	first, second := kid(n, 0), kid(n, 1)
	switch n.Kind {
	case api.NArray:
		return parts{"[", first, "]", second}
	case api.NSlice:
		return parts{"[]", first}
	case api.NStar:
		return parts{"*", first}
	case api.NMap:
		return parts{"map[", first, "]", second}
	case api.NFuncType:
		return parts{"func", signature(n)}
	case api.NStruct:
		return parts{"struct", members(n.Kids)}
	case api.NInterface:
		return parts{"interface", members(n.Kids)}
	case api.NField, api.NParam:
		return parts{optionalText("", n.Text, " "), first}
	case api.NMethod:
		return parts{n.Text, signature(first)}
	case api.NUnion:
		return joined(n.Kids, " | ")
	case api.NTilde:
		return parts{"~", first}
	}
	return statement(n)
}

// arguments is what stands in the brackets of a call.
func arguments(call api.Node) parts {
	list := kidsFrom(call, 1)
	if call.Text == "" || len(list) == 0 {
		return commas(list)
	}
	last := len(list) - 1
	var all parts
	for _, n := range list[:last] {
		all = append(all, n, ", ")
	}
	return append(all, aheadOfPoint(list[last]), call.Text)
}

// aheadOfSign is the blank between an operator and its operand, if that begins with one, too: side by side they may be
// another one, as `--` and `&^` are.
func aheadOfSign(operand api.Node) string {
	if operand.Kind == api.NUnary {
		return " "
	}
	return ""
}

// aheadOfPoint is an operand behind which a point comes, which may not touch a number.
func aheadOfPoint(operand api.Node) parts {
	switch lastOperand(operand).Kind {
	case api.NInt, api.NFloat:
		return parts{operand, " "}
	}
	return parts{operand}
}

// lastOperand is the operand that the text of n ends with, behind all operators.
func lastOperand(n api.Node) api.Node {
	for len(n.Kids) > 0 && (n.Kind == api.NBinary || n.Kind == api.NUnary || n.Kind == api.NStar) {
		n = n.Kids[len(n.Kids)-1]
	}
	return n
}

// signature is a function's parameters and result.
func signature(function api.Node) parts {
	return parts{"(", commas(kid(function, 0).Kids), ")", optional(" ", kid(function, 1), "")}
}

// members is what a struct or an interface is made of; a single one stays on the line.
func members(nodes []api.Node) parts {
	switch len(nodes) {
	case 0:
		return parts{"{}"}
	case 1:
		return parts{"{ ", nodes[0], " }"}
	}
	return parts{" ", block(nodes)}
}
