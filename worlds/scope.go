package worlds

import (
	"slices"
	"strconv"
	"strings"

	"sterling/api"
	"sterling/types"
)

// scope are the names of type parameters, as they are written and as they are.
type scope map[string]paramName

type paramName struct{ text string }

func paramOf(decl string, number int) paramName { return paramName{decl + "#" + strconv.Itoa(number)} }

// typeOf is the type that a tree says. What can't be a type is a zero one.
func (s scope) typeOf(n api.Node) api.Type {
	switch n.Kind {
	case api.NName:
		return s.byName(n.Text)
	case api.NDot:
		return api.Type{Kind: api.KNamed, Name: n.Kids[0].Text + "." + n.Text}
	case api.NIndex:
		return api.Type{Kind: api.KNamed, Name: s.typeOf(n.Kids[0]).Name, Args: s.typesOf(n.Kids[1:])}
	case api.NParen:
		return s.typeOf(n.Kids[0])
	case api.NArray:
		// A length that is no number is none.
		length, _ := strconv.Atoi(n.Kids[0].Text)
		return api.Type{Kind: api.KArray, Len: length, Args: s.typesOf(n.Kids[1:])}
	case api.NSlice:
		return api.Type{Kind: api.KSlice, Args: s.typesOf(n.Kids)}
	case api.NStar:
		return api.Type{Kind: api.KPointer, Args: s.typesOf(n.Kids)}
	case api.NMap:
		return api.Type{Kind: api.KMap, Args: s.typesOf(n.Kids)}
	case api.NFuncType:
		return s.function(n)
	case api.NStruct:
		return s.structOf(n)
	case api.NInterface:
		return s.interfaceOf(n)
	}
	return api.Type{}
}

func (s scope) typesOf(list []api.Node) []api.Type {
	var all []api.Type
	for _, n := range list {
		all = append(all, s.typeOf(n))
	}
	return all
}

func (s scope) byName(name string) api.Type {
	if param, isParam := s[name]; isParam {
		return api.Type{Kind: api.KParam, Name: param.text}
	}
	switch name {
	case "any":
		return api.Type{Kind: api.KInterface}
	case "error", "comparable":
		return api.Type{Kind: api.KNamed, Name: name}
	}
	if t := types.Basic(name); t.Kind != api.KNone {
		return t
	}
	return api.Type{Kind: api.KNamed, Name: "p." + name}
}

func (s scope) function(n api.Node) api.Type {
	var params []api.Type
	for _, p := range n.Kids[0].Kids {
		params = append(params, s.typeOf(p.Kids[0]))
	}
	return types.Func(params, s.typeOf(n.Kids[1]))
}

// structOf is a struct. As the grammar has no embedded instances, a field of a name that begins with `embed` is one, too.
func (s scope) structOf(n api.Node) api.Type {
	t := api.Type{Kind: api.KStruct}
	for _, f := range n.Kids {
		x := s.typeOf(f.Kids[0])
		name, isEmbedded := f.Text, f.Text == "" || strings.HasPrefix(f.Text, "embed")
		if isEmbedded {
			name = nameOfEmbedded(x)
		}
		t.Names, t.Emb, t.Args = append(t.Names, name), append(t.Emb, isEmbedded), append(t.Args, x)
	}
	return t
}

// nameOfEmbedded is the name of an embedded field of type t, which is declared or a pointer to such a type.
func nameOfEmbedded(t api.Type) string {
	if t.Kind == api.KPointer {
		t = t.Args[0]
	}
	return t.Name[strings.LastIndexByte(t.Name, '.')+1:]
}

// interfaceOf is an interface; its methods may be written in any order.
func (s scope) interfaceOf(n api.Node) api.Type {
	t := api.Type{Kind: api.KInterface}
	parts := slices.Clone(n.Kids)
	slices.SortStableFunc(parts, func(a, b api.Node) int { return strings.Compare(a.Text, b.Text) })
	for _, part := range parts {
		if part.Kind == api.NMethod {
			t.Names, t.Args = append(t.Names, part.Text), append(t.Args, s.typeOf(part.Kids[0]))
		} else {
			t.Sets = append(t.Sets, s.union(part))
		}
	}
	return t
}

func (s scope) union(n api.Node) []api.Term {
	var all []api.Term
	for _, x := range n.Kids {
		isTilde := x.Kind == api.NTilde
		if isTilde {
			x = x.Kids[0]
		}
		all = append(all, api.Term{Tilde: isTilde, Type: s.typeOf(x)})
	}
	return all
}
