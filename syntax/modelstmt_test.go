package syntax_test

import (
	"strings"

	"sterling/api"
)

// The model reads statements and files as doc/08-parsestmt.md and doc/09-parsefile.md have them.

func modelBlock(source string) (api.Node, bool) {
	return modelRead(source, (*model).block)
}

func modelFile(source string) (api.Node, bool) {
	return modelRead(source, (*model).file)
}

func (m *model) block() api.Node {
	t := m.peek()
	m.need("{")
	block := m.statements(t.At)
	m.need("}")
	return block
}

// statements reads up to the end of a block or clause.
func (m *model) statements(at int) api.Node {
	block := node(api.NBlock, at, "")
	for !m.sees("}") && !m.sees("case") && !m.sees("default") {
		if m.skip(";") {
			continue
		}
		block.Kids = append(block.Kids, m.statement())
		if !m.sees("}") {
			m.need(";")
		}
	}
	return block
}

func (m *model) statement() api.Node {
	t := m.peek()
	switch {
	case m.skip("var"):
		return m.variable(t.At)
	case m.skip("const"):
		return m.constant(t.At)
	case m.skip("type"):
		name := m.name()
		return node(api.NType, t.At, name.Text, node(api.NList, name.At, ""), m.typ())
	case m.sees("{"):
		return m.block()
	case m.sees("if"):
		return m.conditional()
	case m.sees("for"):
		return m.loop()
	case m.sees("switch"):
		return m.choice()
	case m.skip("return"):
		if m.sees(";") || m.sees("}") {
			return node(api.NReturn, t.At, "", api.Node{})
		}
		return node(api.NReturn, t.At, "", m.expr(false))
	case m.skip("break"):
		return node(api.NBreak, t.At, m.label())
	case m.skip("continue"):
		return node(api.NContinue, t.At, m.label())
	case m.skip("defer"):
		return node(api.NDefer, t.At, "", m.expr(false))
	case t.Kind == api.TName && is(m.ahead(1), ":"):
		return m.labelled()
	}
	return m.simple(false)
}

func (m *model) label() string {
	if m.peek().Kind == api.TName {
		return m.next().Text
	}
	return ""
}

func (m *model) labelled() api.Node {
	t := m.name()
	m.need(":")
	if !m.sees("for") && !m.sees("switch") {
		panic(modelWrong{})
	}
	return node(api.NLabel, t.At, t.Text, m.statement())
}

func (m *model) variable(at int) api.Node {
	variable := node(api.NVar, at, m.name().Text, api.Node{}, api.Node{})
	if !m.sees("=") {
		variable.Kids[0] = m.typ()
	}
	if m.skip("=") {
		variable.Kids[1] = m.expr(false)
	}
	return variable
}

func (m *model) constant(at int) api.Node {
	constant := node(api.NConst, at, m.name().Text, api.Node{}, api.Node{})
	if !m.sees("=") {
		constant.Kids[0] = m.typ()
	}
	m.need("=")
	constant.Kids[1] = m.expr(false)
	return constant
}

func (m *model) simple(head bool) api.Node {
	t := m.peek()
	if t.Kind == api.TName && is(m.ahead(1), ":=") {
		m.at += 2
		return node(api.NDefine, t.At, t.Text, m.expr(head))
	}
	n := m.expr(head)
	for _, op := range strings.Fields("= += -= *= /= %= &= |= ^= &^=") {
		if m.skip(op) {
			return node(api.NAssign, t.At, op, n, m.expr(head))
		}
	}
	for _, op := range []string{"++", "--"} {
		if m.skip(op) {
			return node(api.NIncDec, t.At, op, n)
		}
	}
	return node(api.NExprStmt, t.At, "", n)
}

// simpleAhead reads a statement of a head, unless what follows stands there.
func (m *model) simpleAhead(of string) api.Node {
	if m.sees(of) {
		return api.Node{}
	}
	return m.simple(true)
}

// bare is the expression that a statement is.
func bare(statement api.Node) api.Node {
	if statement.Kind != api.NExprStmt {
		panic(modelWrong{})
	}
	return statement.Kids[0]
}

func (m *model) conditional() api.Node {
	t := m.peek()
	m.need("if")
	start, condition := m.simpleAhead(";"), api.Node{}
	if m.skip(";") {
		condition = m.expr(true)
	} else {
		start, condition = api.Node{}, bare(start)
	}
	n := node(api.NIf, t.At, "", start, condition, m.block(), api.Node{})
	if m.skip("else") {
		if m.sees("if") {
			n.Kids[3] = m.conditional()
		} else {
			n.Kids[3] = m.block()
		}
	}
	return n
}

func (m *model) loop() api.Node {
	t := m.peek()
	m.need("for")
	if n, ok := m.ranged(t.At); ok {
		return n
	}
	if m.sees("{") {
		return node(api.NFor, t.At, "", api.Node{}, api.Node{}, api.Node{}, m.block())
	}
	start := m.simpleAhead(";")
	if m.sees("{") {
		return node(api.NFor, t.At, "", api.Node{}, bare(start), api.Node{}, m.block())
	}
	m.need(";")
	condition := api.Node{}
	if !m.sees(";") {
		condition = m.expr(true)
	}
	m.need(";")
	step := m.simpleAhead("{")
	return node(api.NFor, t.At, "", start, condition, step, m.block())
}

// ranged reads a loop from behind its word on, if it is one over a range.
func (m *model) ranged(at int) (api.Node, bool) {
	names, behind := []api.Node{{}, {}}, 0
	for i := 0; i < 2 && m.ahead(behind).Kind == api.TName; i++ {
		t := m.ahead(behind)
		names[i] = node(api.NName, t.At, t.Text)
		behind++
		if is(m.ahead(behind), ",") && i == 0 {
			behind++
		} else if is(m.ahead(behind), ":=") {
			behind++
			break
		} else {
			return api.Node{}, false
		}
	}
	if !is(m.ahead(behind), "range") {
		return api.Node{}, false
	}
	if behind > 0 && !is(m.ahead(behind-1), ":=") {
		panic(modelWrong{})
	}
	m.at += behind + 1
	return node(api.NRange, at, "", names[0], names[1], m.expr(true), m.block()), true
}

func (m *model) choice() api.Node {
	t := m.peek()
	m.need("switch")
	n := node(api.NSwitch, t.At, "", api.Node{}, api.Node{})
	if !m.sees("{") {
		start := m.simpleAhead(";")
		switch {
		case m.skip(";"):
			n.Kids[0] = start
			if !m.sees("{") {
				n.Kids[1] = m.expr(true)
			}
		case m.sees("."):
			n = m.typeChoice(t.At, start)
		default:
			n.Kids[1] = bare(start)
		}
	}
	m.need("{")
	for !m.skip("}") {
		n.Kids = append(n.Kids, m.clause())
	}
	return n
}

func (m *model) typeChoice(at int, start api.Node) api.Node {
	if start.Kind != api.NDefine {
		bare(start)
	}
	operand := start.Kids[0]
	if operand.Kind == api.NUnary || operand.Kind == api.NBinary || operand.Kind == api.NStar {
		panic(modelWrong{})
	}
	for _, text := range []string{".", "(", "type", ")"} {
		m.need(text)
	}
	return node(api.NTypeSwitch, at, start.Text, operand)
}

func (m *model) clause() api.Node {
	t := m.peek()
	list := node(api.NList, t.At, "")
	if m.skip("case") {
		list.Kids = append(list.Kids, m.argument())
		for m.skip(",") {
			list.Kids = append(list.Kids, m.argument())
		}
	} else {
		m.need("default")
	}
	m.need(":")
	return node(api.NCase, t.At, t.Text, list, m.statements(m.peek().At))
}

func (m *model) file() api.Node {
	t := m.peek()
	m.need("package")
	file := node(api.NFile, t.At, m.name().Text)
	m.end()
	for m.sees("import") {
		at := m.next().At
		if m.peek().Kind != api.TString {
			panic(modelWrong{})
		}
		file.Kids = append(file.Kids, node(api.NImport, at, m.next().Text))
		m.end()
	}
	for m.peek().Kind != api.TEnd {
		file.Kids = append(file.Kids, m.declaration())
		m.end()
	}
	return file
}

// end reads the semicolon behind a piece of a file.
func (m *model) end() {
	m.need(";")
}

func (m *model) declaration() api.Node {
	t := m.peek()
	switch {
	case m.skip("var"):
		return m.variable(t.At)
	case m.skip("const"):
		return m.constant(t.At)
	case m.skip("type"):
		name, list := m.name(), api.Node{Kind: api.NList}
		if m.sees("[") && m.ahead(1).Kind == api.TName && !is(m.ahead(2), "]") {
			list = m.typeParams()
		}
		return node(api.NType, t.At, name.Text, list, m.typ())
	}
	m.need("func")
	receiver, list := api.Node{}, api.Node{Kind: api.NList}
	if m.skip("(") {
		receiver = m.receiver()
	}
	name := m.name()
	if receiver.Kind == api.NNone && m.sees("[") {
		list = m.typeParams()
	}
	function := m.sig(t.At)
	for _, p := range function.Kids[0].Kids {
		if p.Text == "" {
			panic(modelWrong{})
		}
	}
	return node(api.NFunc, t.At, name.Text, receiver, list, function, m.block())
}

func (m *model) typeParams() api.Node {
	list := node(api.NList, m.peek().At, "")
	m.need("[")
	list.Kids = m.list("]", func() api.Node {
		name := m.name()
		constraint := m.union()
		if len(constraint.Kids) == 1 && constraint.Kids[0].Kind != api.NTilde {
			constraint = constraint.Kids[0]
		} else {
			constraint = node(api.NInterface, constraint.At, "", constraint)
		}
		return node(api.NParam, name.At, name.Text, constraint)
	})
	return list
}

func (m *model) receiver() api.Node {
	name, t := m.name(), m.peek()
	star := m.skip("*")
	of := m.name()
	typ := node(api.NName, of.At, of.Text)
	if m.skip("[") {
		typ = node(api.NIndex, of.At, "", append([]api.Node{typ}, m.list("]", func() api.Node {
			parameter := m.name()
			return node(api.NName, parameter.At, parameter.Text)
		})...)...)
	}
	if star {
		typ = node(api.NStar, t.At, "", typ)
	}
	m.need(")")
	return node(api.NParam, name.At, name.Text, typ)
}
