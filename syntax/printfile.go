package syntax

import "sterling/api"

func declaration(n api.Node) parts {
	first, second := kid(n, 0), kid(n, 1)
	switch n.Kind {
	case api.NVar:
		return parts{"var ", n.Text, optional(" ", first, ""), optional(" = ", second, "")}
	case api.NConst:
		return parts{"const ", n.Text, optional(" ", first, ""), optional(" = ", second, "")}
	case api.NType:
		return parts{"type ", n.Text, typeParameters(first), " ", second}
	case api.NFunc:
		return parts{"func ", optional("(", first, ") "), n.Text, typeParameters(second), signature(kid(n, 2)), " ", kid(n, 3)}
	case api.NImport:
		return parts{"import ", n.Text}
	case api.NFile:
		return file(n)
	}
	// An absent node, a list by itself, or no node of the table: nothing reads it, whatever its text.
	return parts{n.Text, commas(n.Kids)}
}

func typeParameters(list api.Node) parts {
	if len(list.Kids) == 0 {
		return nil
	}
	return parts{"[", commas(list.Kids), "]"}
}

// file is imports a line each, and all else set apart by empty lines.
func file(n api.Node) parts {
	all := parts{"package ", n.Text}
	for i, m := range n.Kids {
		if i == 0 || m.Kind != api.NImport {
			all = append(all, newLine)
		}
		all = append(all, newLine, m)
	}
	return append(all, newLine)
}
