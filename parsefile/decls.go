package parsefile

import "sterling/api"

// variable reads what stands behind the word of a variable or, with a value in any case, of a constant.
func (f *reader) variable(kind, at int) api.Node {
	n := node(kind, at, f.needName().Text, api.Node{}, api.Node{})
	if !f.sees("=") {
		n.Kids[0] = f.typ()
	}
	if kind == api.NConst || f.sees("=") {
		f.need("=")
		n.Kids[1] = f.expr()
	}
	return n
}

func (f *reader) typeDeclaration(at int) api.Node {
	name, parameters := f.needName(), api.Node{Kind: api.NList}
	if f.seesTypeParameters() {
		parameters = f.typeParameters()
	}
	return node(api.NType, at, name.Text, parameters, f.typ())
}

// seesTypeParameters tells whether brackets behind the name of a type hold type parameters, and not the length of an array:
// a name alone is one.
func (f *reader) seesTypeParameters() bool {
	ahead := *f.Reader
	return ahead.Next().Text == "[" && ahead.Next().Kind == api.TName && ahead.Next().Text != "]"
}

func (f *reader) typeParameters() api.Node {
	at := f.need("[").At
	return node(api.NList, at, "", f.list("]", f.typeParameter)...)
}

func (f *reader) typeParameter() api.Node {
	name := f.needName()
	return node(api.NParam, name.At, name.Text, f.constraint())
}

func (f *reader) constraint() api.Node {
	first := f.term()
	if first.Kind != api.NTilde && !f.sees("|") {
		return first
	}
	union := node(api.NUnion, first.At, "", first)
	for f.skip("|") {
		union.Kids = append(union.Kids, f.term())
	}
	return node(api.NInterface, first.At, "", union)
}

func (f *reader) term() api.Node {
	at := f.Peek().At
	if f.skip("~") {
		return node(api.NTilde, at, "", f.typ())
	}
	return f.typ()
}

func (f *reader) function(at int) api.Node {
	receiver, parameters := api.Node{}, api.Node{Kind: api.NList}
	if f.sees("(") {
		receiver = f.receiver()
	}
	name := f.needName()
	if f.sees("[") && receiver.Kind == api.NNone {
		parameters = f.typeParameters()
	}
	return node(api.NFunc, at, name.Text, receiver, parameters, f.signature(), f.block())
}

func (f *reader) receiver() api.Node {
	f.need("(")
	name := f.needName()
	n := node(api.NParam, name.At, name.Text, f.receiverType())
	f.need(")")
	return n
}

func (f *reader) receiverType() api.Node {
	at := f.Peek().At
	if f.skip("*") {
		return node(api.NStar, at, "", f.receiverBase())
	}
	return f.receiverBase()
}

// receiverBase reads the name of a receiver's type, and the names that its type parameters have in the method.
func (f *reader) receiverBase() api.Node {
	n := f.nameNode()
	if !f.skip("[") {
		return n
	}
	return node(api.NIndex, n.At, "", append([]api.Node{n}, f.list("]", f.nameNode)...)...)
}

// signature reads that of a declaration, which names its parameters. All of one have names or none has.
func (f *reader) signature() api.Node {
	n := f.part(f.Sig)
	for _, p := range n.Kids[0].Kids {
		if p.Text == "" {
			panic(wrong{p.At})
		}
	}
	return n
}
