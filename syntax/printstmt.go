package syntax

import "sterling/api"

func statement(n api.Node) parts {
	first, second := kid(n, 0), kid(n, 1)
	switch n.Kind {
	case api.NBlock:
		return block(n.Kids)
	case api.NExprStmt:
		return parts{first}
	case api.NDefine:
		return parts{n.Text, " := ", first}
	case api.NAssign:
		return parts{first, " ", n.Text, " ", second}
	case api.NIncDec:
		return parts{first, n.Text}
	case api.NDefer:
		return parts{"defer ", first}
	case api.NReturn:
		return parts{"return", optional(" ", first, "")}
	case api.NBreak:
		return parts{"break", optionalText(" ", n.Text, "")}
	case api.NContinue:
		return parts{"continue", optionalText(" ", n.Text, "")}
	case api.NLabel:
		return parts{n.Text, ":", newLine, first}
	}
	return headed(n)
}

// headed is the statements that have heads, and their clauses.
func headed(n api.Node) parts {
	switch n.Kind {
	case api.NIf:
		return parts{"if ", optional("", kid(n, 0), "; "), kid(n, 1), " ", kid(n, 2), optional(" else ", kid(n, 3), "")}
	case api.NFor:
		return parts{"for ", forHead(kid(n, 0), kid(n, 1), kid(n, 2)), kid(n, 3)}
	case api.NRange:
		return parts{"for ", rangeNames(kid(n, 0), kid(n, 1)), "range ", kid(n, 2), " ", kid(n, 3)}
	case api.NSwitch:
		return parts{"switch ", optional("", kid(n, 0), "; "), optional("", kid(n, 1), " "), clauses(kidsFrom(n, 2))}
	case api.NTypeSwitch:
		return parts{"switch ", optionalText("", n.Text, " := "), aheadOfPoint(kid(n, 0)), ".(type) ", clauses(kidsFrom(n, 1))}
	case api.NCase:
		return clause(n)
	}
	return declaration(n)
}

func forHead(start, condition, step api.Node) parts {
	if start.Kind == api.NNone && step.Kind == api.NNone && !takesBraces(condition) {
		return optional("", condition, " ")
	}
	return parts{start, "; ", condition, "; ", optional("", step, " ")}
}

// takesBraces tells whether braces right behind n may be read as a part of it: a type's elements or a function's block.
func takesBraces(n api.Node) bool {
	switch lastOperand(n).Kind {
	case api.NArray, api.NSlice, api.NMap, api.NStruct, api.NInterface, api.NFuncType:
		return true
	}
	return false
}

func rangeNames(key, value api.Node) parts {
	if key.Kind == api.NNone {
		return nil
	}
	return parts{key, optional(", ", value, ""), " := "}
}

// clauses is those of a switch, which stand as far in as it does.
func clauses(nodes []api.Node) parts {
	if len(nodes) == 0 {
		return parts{"{}"}
	}
	return parts{"{", lines(nodes), newLine, "}"}
}

func clause(n api.Node) parts {
	list, body := kid(n, 0), kid(n, 1)
	head := parts{n.Text}
	if len(list.Kids) > 0 {
		head = parts{n.Text, " ", commas(list.Kids)}
	}
	return parts{head, ":", further, lines(body.Kids), back}
}
