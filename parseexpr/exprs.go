package parseexpr

import (
	"sterling/api"
	"sterling/syntax"
)

// rank is how tight a binary operator binds; 0 of whatever else.
func rank(t api.Token) int {
	if t.Kind != api.TOp {
		return 0
	}
	switch t.Text {
	case "*", "/", "%", "&", "&^":
		return 5
	case "+", "-", "|", "^":
		return 4
	case "==", "!=", "<", "<=", ">", ">=":
		return 3
	case "&&":
		return 2
	case "||":
		return 1
	}
	return 0
}

func (r *Reader) expr(head bool) api.Node { return r.binary(head, 1) }

// binary reads operands with operators between that bind at least as tight as least.
func (r *Reader) binary(head bool, least int) api.Node {
	n := r.unary(head)
	// Each turn puts the first operand a level deeper, so there are not more of them.
	for range api.MaxDepth {
		op := r.Peek()
		if rank(op) < least {
			return n
		}
		r.Next()
		n = node(api.NBinary, n.At, op.Text, n, r.binary(head, rank(op)+1))
	}
	panic(wrong{})
}

func (r *Reader) unary(head bool) api.Node {
	r.deeper()
	n := r.signed(head)
	r.levels--
	return n
}

// signed reads a unary operator and its operand, or an operand without one.
func (r *Reader) signed(head bool) api.Node {
	t := r.Peek()
	if t.Kind != api.TOp {
		return r.primary(head)
	}
	switch t.Text {
	case "*":
		r.Next()
		return node(api.NStar, t.At, "", r.unary(head))
	case "+", "-", "!", "^", "&":
		r.Next()
		return node(api.NUnary, t.At, t.Text, r.unary(head))
	}
	return r.primary(head)
}

func (r *Reader) primary(head bool) api.Node {
	n := r.operand()
	// Each turn puts the operand a level deeper, so there are not more of them.
	for range api.MaxDepth {
		longer, ok := r.suffix(n, head)
		if !ok {
			return n
		}
		n = longer
	}
	panic(wrong{})
}

// suffix reads what may stand behind an operand, once; false, if nothing of that stands there.
func (r *Reader) suffix(n api.Node, head bool) (api.Node, bool) {
	switch {
	case r.sees("."):
		return r.selection(n)
	case r.skip("["):
		return indexed(n, r.list("]", r.argument)), true
	case r.skip("("):
		return r.call(n), true
	case r.sees("{") && hasElements(n) && !(head && beginsWithName(n)):
		return r.literal(n), true
	}
	return api.Node{}, false
}

// selection reads a point and what it asks for; false, if the point belongs to `...` or to `.(type)`, which are no part
// of an expression.
func (r *Reader) selection(n api.Node) (api.Node, bool) {
	if r.seesSpread() || is(r.ahead(1), "(") && is(r.ahead(2), "type") {
		return api.Node{}, false
	}
	r.need(".")
	if r.skip("(") {
		asserted := node(api.NAssert, n.At, "", n, r.typ())
		r.need(")")
		return asserted, true
	}
	return node(api.NDot, n.At, r.needName().Text, n), true
}

// seesSpread tells whether three points come next that touch.
func (r *Reader) seesSpread() bool {
	for i := range len("...") {
		if t := r.ahead(i); !is(t, ".") || t.At != r.Peek().At+i {
			return false
		}
	}
	return true
}

func (r *Reader) argument() api.Node { return r.expr(false) }

// call reads arguments from behind their `(` on.
func (r *Reader) call(function api.Node) api.Node {
	n := node(api.NCall, function.At, "", function)
	for !r.skip(")") {
		n.Kids = append(n.Kids, r.argument())
		if r.seesSpread() {
			r.at += len("...")
			n.Text = "..."
		}
		if !r.skip(",") || n.Text != "" {
			r.need(")")
			break
		}
	}
	return n
}

func (r *Reader) operand() api.Node {
	t := r.Peek()
	switch t.Kind {
	case api.TInt:
		return node(api.NInt, t.At, r.Next().Text)
	case api.TFloat:
		return node(api.NFloat, t.At, r.Next().Text)
	case api.TString:
		return node(api.NString, t.At, r.Next().Text)
	case api.TName:
		return node(api.NName, t.At, r.Next().Text)
	}
	switch {
	case r.skip("("):
		inside := r.argument()
		r.need(")")
		return node(api.NParen, t.At, "", inside)
	case r.skip("func"):
		return r.function(t.At)
	}
	return r.typeHere()
}

// function reads a function literal, or a type if it has no block, from behind its word on.
func (r *Reader) function(at int) api.Node {
	typ := r.sig(at)
	if !r.sees("{") {
		return typ
	}
	return node(api.NFuncLit, at, "", typ, r.readBlock())
}

// readBlock is what the block's reader answers. Function literals inside one another are levels of a tree, so what has
// too many of them is left right there.
func (r *Reader) readBlock() api.Node {
	if r.block == nil || r.blocks == api.MaxDepth {
		panic(wrong{})
	}
	r.blocks++
	n, ok := r.block(r)
	r.blocks--
	if !ok || syntax.Depth(n) >= api.MaxDepth {
		panic(wrong{})
	}
	return copied(n)
}

// copied shares no list with n: the block's reader may have kept what it answered.
func copied(n api.Node) api.Node {
	var kids []api.Node
	for _, kid := range n.Kids {
		kids = append(kids, copied(kid))
	}
	n.Kids = kids
	return n
}

func hasElements(n api.Node) bool {
	switch n.Kind {
	case api.NArray, api.NSlice, api.NMap, api.NStruct:
		return true
	}
	return beginsWithName(n)
}

// beginsWithName tells whether n is a name, perhaps of a package, or an NIndex of one.
func beginsWithName(n api.Node) bool {
	if n.Kind == api.NIndex {
		n = n.Kids[0]
	}
	if n.Kind == api.NDot {
		n = n.Kids[0]
	}
	return n.Kind == api.NName
}

// literal reads the elements of a type.
func (r *Reader) literal(typ api.Node) api.Node {
	n := node(api.NLit, typ.At, "", typ)
	r.need("{")
	if !r.skip("}") {
		n.Kids = append(n.Kids, r.list("}", r.keyed)...)
	}
	return n
}

// keyed reads an element, with its key or without one.
func (r *Reader) keyed() api.Node {
	n := r.argument()
	if r.skip(":") {
		return node(api.NKey, n.At, "", n, r.argument())
	}
	return n
}
