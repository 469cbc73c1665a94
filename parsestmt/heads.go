package parsestmt

import "sterling/api"

// part reads a statement of a head, or nothing where the head goes on or ends without one.
func (s *reader) part() api.Node {
	if s.seesSemicolon() || s.sees("{") {
		return api.Node{}
	}
	return s.simple(s.expr(true), true)
}

// bare is the expression that a statement of a head is, if the head has but that.
func bare(statement api.Node) api.Node {
	if statement.Kind != api.NExprStmt {
		panic(wrong{})
	}
	return statement.Kids[0]
}

func (s *reader) conditional() api.Node {
	s.deeper()
	at := s.Next().At
	start, condition := s.part(), api.Node{}
	if s.skipSemicolon() {
		condition = s.expr(true)
	} else {
		start, condition = api.Node{}, bare(start)
	}
	n := node(api.NIf, at, "", start, condition, s.block(), s.otherwise())
	s.levels--
	return n
}

// otherwise reads an `else` and what stands behind it, if there is one.
func (s *reader) otherwise() api.Node {
	switch {
	case !s.skip("else"):
		return api.Node{}
	case s.sees("if"):
		return s.conditional()
	}
	return s.block()
}

func (s *reader) loop() api.Node {
	at := s.Next().At
	switch {
	case s.sees("range"):
		return s.ranged(at, api.Node{}, api.Node{})
	case s.sees("{"):
		return s.whileLoop(at, api.Node{})
	case s.seesSemicolon():
		return s.threeParts(at, api.Node{})
	}
	first := s.expr(true)
	if first.Kind == api.NName && s.skip(",") {
		second := s.needName()
		s.need(":=")
		return s.ranged(at, first, node(api.NName, second.At, second.Text))
	}
	if first.Kind == api.NName && s.skip(":=") {
		if s.sees("range") {
			return s.ranged(at, first, api.Node{})
		}
		return s.threeParts(at, s.defined(first, true))
	}
	start := s.simple(first, true)
	if s.sees("{") {
		return s.whileLoop(at, bare(start))
	}
	return s.threeParts(at, start)
}

// whileLoop reads the block of a loop that has a condition at most.
func (s *reader) whileLoop(at int, condition api.Node) api.Node {
	return node(api.NFor, at, "", api.Node{}, condition, api.Node{}, s.block())
}

// threeParts reads a loop from behind the first of its parts on.
func (s *reader) threeParts(at int, start api.Node) api.Node {
	s.needSemicolon()
	condition := api.Node{}
	if !s.seesSemicolon() {
		condition = s.expr(true)
	}
	s.needSemicolon()
	return node(api.NFor, at, "", start, condition, s.part(), s.block())
}

// ranged reads a loop from its word `range` on.
func (s *reader) ranged(at int, key, value api.Node) api.Node {
	s.need("range")
	return node(api.NRange, at, "", key, value, s.expr(true), s.block())
}

func (s *reader) choice() api.Node {
	n := s.choiceHead(s.Next().At)
	s.need("{")
	for !s.skip("}") {
		n.Kids = append(n.Kids, s.clause())
	}
	return n
}

// choiceHead is a switch without clauses.
func (s *reader) choiceHead(at int) api.Node {
	start := s.part()
	switch {
	case s.sees("."):
		return s.typeChoice(at, start)
	case s.skipSemicolon():
		operand := api.Node{}
		if !s.sees("{") {
			operand = s.expr(true)
		}
		return node(api.NSwitch, at, "", start, operand)
	case start.Kind == api.NNone:
		return node(api.NSwitch, at, "", api.Node{}, api.Node{})
	}
	return node(api.NSwitch, at, "", api.Node{}, bare(start))
}

// typeChoice reads `.(type)` behind what has been read as a statement.
func (s *reader) typeChoice(at int, start api.Node) api.Node {
	if start.Kind != api.NDefine {
		bare(start)
	}
	operand := start.Kids[0]
	switch operand.Kind {
	case api.NUnary, api.NBinary, api.NStar:
		panic(wrong{})
	}
	for _, text := range [...]string{".", "(", "type", ")"} {
		s.need(text)
	}
	return node(api.NTypeSwitch, at, start.Text, operand)
}

func (s *reader) clause() api.Node {
	word := s.Next()
	var list []api.Node
	if word.Text == "case" {
		list = s.alternatives()
	} else if word.Text != "default" {
		panic(wrong{})
	}
	s.need(":")
	return node(api.NCase, word.At, word.Text, gathered(api.NList, list), gathered(api.NBlock, s.statements()))
}

// alternatives reads one or more with commas between.
func (s *reader) alternatives() []api.Node {
	list := []api.Node{s.expr(false)}
	for s.skip(",") {
		list = append(list, s.expr(false))
	}
	return list
}
