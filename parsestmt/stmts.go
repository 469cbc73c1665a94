package parsestmt

import "sterling/api"

func (s *reader) block() api.Node {
	at := s.Peek().At
	s.need("{")
	statements := s.statements()
	s.need("}")
	return node(api.NBlock, at, "", statements...)
}

// statements reads those of a block or a clause, up to what ends them.
func (s *reader) statements() []api.Node {
	s.deeper()
	var list []api.Node
	for !s.sees("}") && !s.sees("case") && !s.sees("default") {
		if s.skipSemicolon() {
			continue
		}
		list = append(list, s.statement())
		if !s.sees("}") {
			s.needSemicolon()
		}
	}
	s.levels--
	return list
}

func (s *reader) statement() api.Node {
	switch s.Peek().Text {
	case "{":
		return s.block()
	case "if":
		return s.conditional()
	case "for":
		return s.loop()
	case "switch":
		return s.choice()
	case "var", "const", "type":
		return s.declaration()
	case "return", "break", "continue":
		return s.leaving()
	case "defer":
		return node(api.NDefer, s.Next().At, "", s.expr(false))
	}
	first := s.expr(false)
	if first.Kind == api.NName && s.skip(":") {
		return s.labelled(first)
	}
	return s.simple(first, false)
}

func (s *reader) declaration() api.Node {
	word := s.Next()
	name := s.needName().Text
	switch word.Text {
	case "var":
		return s.variable(api.NVar, word.At, name)
	case "type":
		return node(api.NType, word.At, name, gathered(api.NList, nil), s.typ())
	}
	constant := s.variable(api.NConst, word.At, name)
	if constant.Kids[1].Kind == api.NNone {
		panic(wrong{})
	}
	return constant
}

// variable reads what stands behind the name of a variable or a constant.
func (s *reader) variable(kind, at int, name string) api.Node {
	n := node(kind, at, name, api.Node{}, api.Node{})
	if !s.sees("=") {
		n.Kids[0] = s.typ()
	}
	if s.skip("=") {
		n.Kids[1] = s.expr(false)
	}
	return n
}

// leaving reads a statement by which a block is left.
func (s *reader) leaving() api.Node {
	word := s.Next()
	switch word.Text {
	case "break":
		return node(api.NBreak, word.At, s.label())
	case "continue":
		return node(api.NContinue, word.At, s.label())
	}
	if s.seesSemicolon() || s.sees("}") {
		return node(api.NReturn, word.At, "", api.Node{})
	}
	return node(api.NReturn, word.At, "", s.expr(false))
}

// label is the name that comes next, or nothing if none does.
func (s *reader) label() string {
	if s.Peek().Kind != api.TName {
		return ""
	}
	return s.Next().Text
}

// labelled reads what stands behind a label.
func (s *reader) labelled(label api.Node) api.Node {
	switch s.Peek().Text {
	case "for":
		return node(api.NLabel, label.At, label.Text, s.loop())
	case "switch":
		return node(api.NLabel, label.At, label.Text, s.choice())
	}
	panic(wrong{})
}

// simple reads a simple statement from behind its first expression on.
func (s *reader) simple(first api.Node, head bool) api.Node {
	operator := s.Peek().Text
	switch operator {
	case ":=":
		s.Next()
		return s.defined(first, head)
	case "=", "+=", "-=", "*=", "/=", "%=", "&=", "|=", "^=", "&^=":
		s.Next()
		return node(api.NAssign, first.At, operator, first, s.expr(head))
	case "++", "--":
		s.Next()
		return node(api.NIncDec, first.At, operator, first)
	}
	return node(api.NExprStmt, first.At, "", first)
}

// defined reads what stands behind a `:=`.
func (s *reader) defined(name api.Node, head bool) api.Node {
	if name.Kind != api.NName {
		panic(wrong{})
	}
	return node(api.NDefine, name.At, name.Text, s.expr(head))
}
