package parseexpr

import "sterling/api"

func beginsType(t api.Token) bool {
	switch t.Kind {
	case api.TName:
		return true
	case api.TOp:
		return t.Text == "[" || t.Text == "*" || t.Text == "("
	case api.TWord:
		return t.Text == "map" || t.Text == "func" || t.Text == "struct" || t.Text == "interface"
	}
	return false
}

func (r *Reader) typ() api.Node {
	r.deeper()
	n := r.typeHere()
	r.levels--
	return n
}

// typeHere reads a type that stands no deeper than what asks for it.
func (r *Reader) typeHere() api.Node {
	if !beginsType(r.Peek()) {
		panic(wrong{})
	}
	t := r.Next()
	switch t.Text {
	case "(":
		inside := r.typ()
		r.need(")")
		return node(api.NParen, t.At, "", inside)
	case "[":
		return r.sequence(t.At)
	case "*":
		return node(api.NStar, t.At, "", r.typ())
	case "map":
		r.need("[")
		key := r.typ()
		r.need("]")
		return node(api.NMap, t.At, "", key, r.typ())
	case "func":
		return r.sig(t.At)
	case "struct":
		return node(api.NStruct, t.At, "", r.members(r.field)...)
	case "interface":
		return node(api.NInterface, t.At, "", r.members(r.element)...)
	}
	return r.instance(t)
}

// sequence reads an array or a slice from behind its `[` on.
func (r *Reader) sequence(at int) api.Node {
	if r.skip("]") {
		return node(api.NSlice, at, "", r.typ())
	}
	length := r.expr(false)
	r.need("]")
	return node(api.NArray, at, "", length, r.typ())
}

// qualified reads what may stand behind a name of a type or package: a point and another name.
func (r *Reader) qualified(t api.Token) api.Node {
	n := node(api.NName, t.At, t.Text)
	if r.sees(".") && r.ahead(1).Kind == api.TName {
		r.Next()
		return node(api.NDot, t.At, r.Next().Text, n)
	}
	return n
}

// instance reads a type with a name from behind its first name on.
func (r *Reader) instance(t api.Token) api.Node {
	n := r.qualified(t)
	if r.skip("[") {
		return indexed(n, r.list("]", r.typ))
	}
	return n
}

func indexed(operand api.Node, arguments []api.Node) api.Node {
	return node(api.NIndex, operand.At, "", append([]api.Node{operand}, arguments...)...)
}

// sig reads parameters and a result; at is where the function's type begins.
func (r *Reader) sig(at int) api.Node {
	parameters := node(api.NList, r.Peek().At, "")
	r.need("(")
	if !r.skip(")") {
		parameters.Kids = r.list(")", r.parameter)
	}
	for _, p := range parameters.Kids {
		if (p.Text == "") != (parameters.Kids[0].Text == "") {
			panic(wrong{})
		}
	}
	result := api.Node{}
	if beginsType(r.Peek()) {
		result = r.typ()
	}
	return node(api.NFuncType, at, "", parameters, result)
}

func (r *Reader) parameter() api.Node {
	t := r.Peek()
	if t.Kind == api.TName && r.beginsNamed() {
		r.Next()
		return node(api.NParam, t.At, t.Text, r.typ())
	}
	return node(api.NParam, t.At, "", r.typ())
}

// beginsNamed tells whether the name that comes next is a parameter's own, by the type behind it. Brackets behind it may
// be a length of that as well as arguments of the name, so what stands behind these says which.
func (r *Reader) beginsNamed() bool {
	behind := r.at + 1
	if closing := r.closing[behind]; closing > 0 {
		behind = closing + 1
	}
	return beginsType(r.tokens[behind])
}

// field reads one of a struct.
func (r *Reader) field() api.Node {
	at := r.Peek().At
	if r.skip("*") {
		return node(api.NField, at, "", node(api.NStar, at, "", r.qualified(r.needName())))
	}
	name := r.needName()
	if r.sees(".") || r.sees("}") || r.Peek().Kind == api.TSemi {
		return node(api.NField, at, "", r.qualified(name))
	}
	return node(api.NField, at, name.Text, r.typ())
}

// element reads a method or a union of an interface.
func (r *Reader) element() api.Node {
	t := r.Peek()
	if t.Kind == api.TName && is(r.ahead(1), "(") {
		r.Next()
		return node(api.NMethod, t.At, t.Text, r.sig(r.Peek().At))
	}
	union := node(api.NUnion, t.At, "", r.term())
	for r.skip("|") {
		union.Kids = append(union.Kids, r.term())
	}
	return union
}

func (r *Reader) term() api.Node {
	at := r.Peek().At
	if r.skip("~") {
		return node(api.NTilde, at, "", r.typ())
	}
	return r.typ()
}
