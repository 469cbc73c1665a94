package syntax_test

import (
	"strings"

	"sterling/api"
	"sterling/scan"
	"sterling/syntax"
)

// The model reads expressions and types as doc/07-parseexpr.md has them.

// modelWrong is what the model panics with where something may not stand.
type modelWrong struct{}

type model struct {
	tokens []api.Token
	at     int
}

// modelRead reads the whole of a source, with one semicolon at the end or none.
func modelRead(source string, read func(m *model) api.Node) (n api.Node, ok bool) {
	defer func() {
		if wrong := recover(); wrong != nil {
			if _, own := wrong.(modelWrong); !own {
				panic(wrong)
			}
			n, ok = api.Node{}, false
		}
	}()
	tokens, _, ok := scan.Scan([]byte(source))
	if !ok {
		return api.Node{}, false
	}
	m := &model{tokens: tokens}
	n = read(m)
	m.skip(";")
	if m.peek().Kind != api.TEnd || syntax.Depth(n) > api.MaxDepth {
		return api.Node{}, false
	}
	return n, true
}

func modelExpr(source string) (api.Node, bool) {
	return modelRead(source, func(m *model) api.Node { return m.expr(false) })
}

func modelType(source string) (api.Node, bool) {
	return modelRead(source, (*model).typ)
}

func (m *model) ahead(n int) api.Token {
	return m.tokens[min(m.at+n, len(m.tokens)-1)]
}

func (m *model) peek() api.Token { return m.ahead(0) }

func (m *model) next() api.Token {
	t := m.peek()
	m.at++
	return t
}

// is tells whether a token is an operator, a word, or (by `;`) a semicolon of either sort.
func is(t api.Token, text string) bool {
	if t.Kind == api.TSemi {
		return text == ";"
	}
	return t.Text == text && (t.Kind == api.TOp || t.Kind == api.TWord)
}

func (m *model) sees(text string) bool { return is(m.peek(), text) }

func (m *model) skip(text string) bool {
	found := m.sees(text)
	if found {
		m.at++
	}
	return found
}

func (m *model) need(text string) {
	if !m.skip(text) {
		panic(modelWrong{})
	}
}

func (m *model) name() api.Token {
	if m.peek().Kind != api.TName {
		panic(modelWrong{})
	}
	return m.next()
}

func node(kind int, at int, text string, kids ...api.Node) api.Node {
	return api.Node{Kind: kind, At: at, Text: text, Kids: kids}
}

// list reads one or more with commas between, and a comma behind the last or none, up to what ends it.
func (m *model) list(end string, read func() api.Node) []api.Node {
	kids := []api.Node{read()}
	for m.skip(",") && !m.sees(end) {
		kids = append(kids, read())
	}
	m.need(end)
	return kids
}

func (m *model) beginsType(t api.Token) bool {
	return t.Kind == api.TName || is(t, "[") || is(t, "*") || is(t, "(") || is(t, "map") || is(t, "func") ||
		is(t, "struct") || is(t, "interface")
}

func (m *model) typ() api.Node {
	t := m.peek()
	switch {
	case t.Kind == api.TName:
		return m.namedType()
	case m.skip("("):
		inside := m.typ()
		m.need(")")
		return node(api.NParen, t.At, "", inside)
	case m.skip("["):
		if m.skip("]") {
			return node(api.NSlice, t.At, "", m.typ())
		}
		length := m.expr(false)
		m.need("]")
		return node(api.NArray, t.At, "", length, m.typ())
	case m.skip("*"):
		return node(api.NStar, t.At, "", m.typ())
	case m.skip("map"):
		m.need("[")
		key := m.typ()
		m.need("]")
		return node(api.NMap, t.At, "", key, m.typ())
	case m.skip("func"):
		return m.sig(t.At)
	case m.skip("struct"):
		return m.structure(t.At)
	case m.skip("interface"):
		return m.iface(t.At)
	}
	panic(modelWrong{})
}

// plainName reads a name, or a name of a package.
func (m *model) plainName() api.Node {
	t := m.name()
	n := node(api.NName, t.At, t.Text)
	if m.sees(".") && m.ahead(1).Kind == api.TName {
		m.need(".")
		n = node(api.NDot, t.At, m.name().Text, n)
	}
	return n
}

func (m *model) namedType() api.Node {
	n := m.plainName()
	if m.skip("[") {
		n = node(api.NIndex, n.At, "", append([]api.Node{n}, m.list("]", m.typ)...)...)
	}
	return n
}

// sig reads parameters and a result.
func (m *model) sig(at int) api.Node {
	open := m.peek()
	m.need("(")
	parameters := node(api.NList, open.At, "")
	if !m.skip(")") {
		parameters.Kids = m.list(")", m.param)
	}
	for _, p := range parameters.Kids {
		if (p.Text == "") != (parameters.Kids[0].Text == "") {
			panic(modelWrong{})
		}
	}
	result := api.Node{}
	if m.beginsType(m.peek()) {
		result = m.typ()
	}
	return node(api.NFuncType, at, "", parameters, result)
}

func (m *model) param() api.Node {
	t := m.peek()
	if t.Kind == api.TName && m.namesParam() {
		m.next()
		return node(api.NParam, t.At, t.Text, m.typ())
	}
	return node(api.NParam, t.At, "", m.typ())
}

// namesParam tells whether the name ahead is a parameter's.
func (m *model) namesParam() bool {
	if !is(m.ahead(1), "[") {
		return m.beginsType(m.ahead(1))
	}
	open := 0
	for i := 1; m.ahead(i).Kind != api.TEnd; i++ {
		switch t := m.ahead(i); {
		case is(t, "["), is(t, "("), is(t, "{"):
			open++
		case is(t, "]"), is(t, ")"), is(t, "}"):
			open--
		}
		if open == 0 {
			return m.beginsType(m.ahead(i + 1))
		}
	}
	return false
}

// members reads what stands in the braces of a struct or an interface.
func (m *model) members(read func() api.Node) []api.Node {
	var kids []api.Node
	m.need("{")
	for !m.skip("}") {
		kids = append(kids, read())
		if !m.sees("}") {
			m.need(";")
		}
	}
	return kids
}

func (m *model) structure(at int) api.Node {
	return node(api.NStruct, at, "", m.members(func() api.Node {
		t := m.peek()
		if m.skip("*") {
			return node(api.NField, t.At, "", node(api.NStar, t.At, "", m.plainName()))
		}
		if behind := m.ahead(1); is(behind, ".") || is(behind, ";") || is(behind, "}") {
			return node(api.NField, t.At, "", m.plainName())
		}
		m.name()
		return node(api.NField, t.At, t.Text, m.typ())
	})...)
}

func (m *model) iface(at int) api.Node {
	return node(api.NInterface, at, "", m.members(func() api.Node {
		t := m.peek()
		if t.Kind == api.TName && is(m.ahead(1), "(") {
			m.next()
			return node(api.NMethod, t.At, t.Text, m.sig(t.At))
		}
		return m.union()
	})...)
}

func (m *model) union() api.Node {
	union := node(api.NUnion, m.peek().At, "", m.term())
	for m.skip("|") {
		union.Kids = append(union.Kids, m.term())
	}
	return union
}

func (m *model) term() api.Node {
	t := m.peek()
	if m.skip("~") {
		return node(api.NTilde, t.At, "", m.typ())
	}
	return m.typ()
}

func modelRank(t api.Token) int {
	if t.Kind == api.TOp {
		for i, ops := range []string{"||", "&&", "== != < <= > >=", "+ - | ^", "* / % & &^"} {
			for _, op := range strings.Fields(ops) {
				if op == t.Text {
					return i + 1
				}
			}
		}
	}
	return 0
}

// expr reads an expression; in a head, a literal does not begin with a name.
func (m *model) expr(head bool) api.Node { return m.binary(head, 1) }

func (m *model) binary(head bool, rank int) api.Node {
	if rank > 5 {
		return m.unary(head)
	}
	n := m.binary(head, rank+1)
	for modelRank(m.peek()) == rank {
		op := m.next()
		n = node(api.NBinary, n.At, op.Text, n, m.binary(head, rank+1))
	}
	return n
}

func (m *model) unary(head bool) api.Node {
	t := m.peek()
	if m.skip("*") {
		return node(api.NStar, t.At, "", m.unary(head))
	}
	for _, op := range strings.Fields("+ - ! ^ &") {
		if m.skip(op) {
			return node(api.NUnary, t.At, op, m.unary(head))
		}
	}
	return m.primary(head)
}

func (m *model) primary(head bool) api.Node {
	n := m.operand()
	for {
		switch {
		case m.sees(".") && m.ahead(1).Kind == api.TName:
			m.next()
			n = node(api.NDot, n.At, m.next().Text, n)
		case m.sees(".") && is(m.ahead(1), "(") && !is(m.ahead(2), "type"):
			m.at += 2
			n = node(api.NAssert, n.At, "", n, m.typ())
			m.need(")")
		case m.skip("["):
			n = node(api.NIndex, n.At, "", append([]api.Node{n}, m.list("]", m.argument)...)...)
		case m.skip("("):
			n = m.call(n)
		case m.sees("{") && hasElements(n) && !(head && beginsWithName(n)):
			n = m.literal(n)
		default:
			return n
		}
	}
}

func (m *model) argument() api.Node { return m.expr(false) }

func (m *model) operand() api.Node {
	t := m.peek()
	switch {
	case t.Kind == api.TInt:
		return node(api.NInt, m.next().At, t.Text)
	case t.Kind == api.TFloat:
		return node(api.NFloat, m.next().At, t.Text)
	case t.Kind == api.TString:
		return node(api.NString, m.next().At, t.Text)
	case t.Kind == api.TName:
		return node(api.NName, m.next().At, t.Text)
	case m.skip("("):
		inside := m.argument()
		m.need(")")
		return node(api.NParen, t.At, "", inside)
	case m.skip("func"):
		function := m.sig(t.At)
		if m.sees("{") {
			return node(api.NFuncLit, t.At, "", function, m.block())
		}
		return function
	}
	return m.typ()
}

func (m *model) call(function api.Node) api.Node {
	call := node(api.NCall, function.At, "", function)
	for !m.skip(")") {
		call.Kids = append(call.Kids, m.argument())
		if m.spread() {
			call.Text = "..."
			m.skip(",")
			m.need(")")
			break
		}
		if !m.skip(",") {
			m.need(")")
			break
		}
	}
	return call
}

// spread passes over three points that touch.
func (m *model) spread() bool {
	for i := range 3 {
		if !is(m.ahead(i), ".") || m.ahead(i).At != m.peek().At+i {
			return false
		}
	}
	m.at += 3
	return true
}

func hasElements(n api.Node) bool {
	switch n.Kind {
	case api.NName, api.NArray, api.NSlice, api.NMap, api.NStruct:
		return true
	case api.NDot:
		return n.Kids[0].Kind == api.NName
	case api.NIndex:
		return beginsWithName(n.Kids[0]) && hasElements(n.Kids[0]) && n.Kids[0].Kind != api.NIndex
	}
	return false
}

// beginsWithName is asked of types that have elements.
func beginsWithName(n api.Node) bool {
	return n.Kind == api.NName || n.Kind == api.NDot || n.Kind == api.NIndex
}

func (m *model) literal(typ api.Node) api.Node {
	literal := node(api.NLit, typ.At, "", typ)
	m.need("{")
	if !m.skip("}") {
		literal.Kids = append(literal.Kids, m.list("}", m.element)...)
	}
	return literal
}

func (m *model) element() api.Node {
	n := m.expr(false)
	if m.skip(":") {
		return node(api.NKey, n.At, "", n, m.expr(false))
	}
	return n
}
