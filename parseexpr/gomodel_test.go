package parseexpr_test

import (
	"go/ast"
	"go/parser"
	"go/token"
	"strings"

	"sterling/api"
)

// The model is what Go's own reader makes of a text, told in the nodes of doc/06-syntax.md, without what the grammar of
// doc/07-parseexpr.md has not.

// goWrong is what the model panics with where that grammar has no such thing.
type goWrong struct{}

type goModel struct {
	source string
}

// goTree reads a text as an expression or a type, or as a type alone.
func goTree(source string, alone bool) (n api.Node, ok bool) {
	defer func() {
		if caught := recover(); caught != nil {
			if _, own := caught.(goWrong); !own {
				panic(caught)
			}
			n, ok = api.Node{}, false
		}
	}()
	e, err := parser.ParseExpr(withoutSemicolon(source))
	if err != nil {
		return api.Node{}, false
	}
	g := goModel{source: source}
	if alone {
		return g.typ(e), true
	}
	return g.expr(e), true
}

// withoutSemicolon leaves out one that is written at the end, which Go's reader of expressions does not know, unless the
// end of a line ahead of it is one, too.
func withoutSemicolon(source string) string {
	cut, found := strings.CutSuffix(strings.TrimRight(source, " \n"), ";")
	if !found || strings.HasSuffix(strings.TrimRight(cut, " "), "\n") {
		return source
	}
	return cut
}

func (g goModel) at(p token.Pos) int { return int(p) - 1 }

func (g goModel) node(kind int, e ast.Node, text string, kids ...api.Node) api.Node {
	return api.Node{Kind: kind, At: g.at(e.Pos()), Text: text, Kids: kids}
}

func (g goModel) expr(e ast.Expr) api.Node {
	switch e := e.(type) {
	case *ast.BasicLit:
		if kind := map[token.Token]int{token.INT: api.NInt, token.FLOAT: api.NFloat, token.STRING: api.NString}[e.Kind]; kind != 0 {
			return g.node(kind, e, e.Value)
		}
	case *ast.ParenExpr:
		return g.node(api.NParen, e, "", g.expr(e.X))
	case *ast.SelectorExpr:
		return g.node(api.NDot, e, e.Sel.Name, g.expr(e.X))
	case *ast.IndexExpr:
		return g.node(api.NIndex, e, "", g.expr(e.X), g.expr(e.Index))
	case *ast.IndexListExpr:
		return g.node(api.NIndex, e, "", append([]api.Node{g.expr(e.X)}, g.exprs(e.Indices)...)...)
	case *ast.CallExpr:
		return g.call(e)
	case *ast.StarExpr:
		return g.node(api.NStar, e, "", g.expr(e.X))
	case *ast.UnaryExpr:
		if op := e.Op.String(); strings.Contains("+-!^&", op) {
			return g.node(api.NUnary, e, op, g.expr(e.X))
		}
	case *ast.BinaryExpr:
		if op := e.Op.String(); op != "<<" && op != ">>" {
			return g.node(api.NBinary, e, op, g.expr(e.X), g.expr(e.Y))
		}
	case *ast.CompositeLit:
		return g.literal(e)
	case *ast.TypeAssertExpr:
		return g.node(api.NAssert, e, "", g.expr(e.X), g.typ(e.Type))
	case *ast.Ident, *ast.ArrayType, *ast.MapType, *ast.FuncType, *ast.StructType, *ast.InterfaceType:
		return g.typ(e)
	}
	panic(goWrong{})
}

func (g goModel) exprs(list []ast.Expr) []api.Node {
	var kids []api.Node
	for _, e := range list {
		kids = append(kids, g.expr(e))
	}
	return kids
}

func (g goModel) call(e *ast.CallExpr) api.Node {
	text := ""
	if e.Ellipsis.IsValid() {
		text = "..."
	}
	return g.node(api.NCall, e, text, append([]api.Node{g.expr(e.Fun)}, g.exprs(e.Args)...)...)
}

func (g goModel) literal(e *ast.CompositeLit) api.Node {
	switch t := e.Type.(type) {
	case *ast.Ident, *ast.ArrayType, *ast.MapType, *ast.StructType:
	default:
		if !isNamed(t) {
			panic(goWrong{})
		}
	}
	n := g.node(api.NLit, e, "", g.expr(e.Type))
	for _, element := range e.Elts {
		if pair, ok := element.(*ast.KeyValueExpr); ok {
			n.Kids = append(n.Kids, g.node(api.NKey, pair, "", g.expr(pair.Key), g.expr(pair.Value)))
		} else {
			n.Kids = append(n.Kids, g.expr(element))
		}
	}
	return n
}

// isNamed tells whether e is a name, perhaps of a package, perhaps with arguments.
func isNamed(e ast.Expr) bool {
	switch i := e.(type) {
	case *ast.IndexExpr:
		e = i.X
	case *ast.IndexListExpr:
		e = i.X
	}
	if selector, ok := e.(*ast.SelectorExpr); ok {
		e = selector.X
	}
	_, ok := e.(*ast.Ident)
	return ok
}

func (g goModel) typ(e ast.Expr) api.Node {
	switch e := e.(type) {
	case *ast.Ident:
		return g.node(api.NName, e, e.Name)
	case *ast.ParenExpr:
		return g.node(api.NParen, e, "", g.typ(e.X))
	case *ast.StarExpr:
		return g.node(api.NStar, e, "", g.typ(e.X))
	case *ast.ArrayType:
		if e.Len == nil {
			return g.node(api.NSlice, e, "", g.typ(e.Elt))
		}
		return g.node(api.NArray, e, "", g.expr(e.Len), g.typ(e.Elt))
	case *ast.MapType:
		return g.node(api.NMap, e, "", g.typ(e.Key), g.typ(e.Value))
	case *ast.FuncType:
		return g.function(e)
	case *ast.StructType:
		return g.structure(e)
	case *ast.InterfaceType:
		return g.iface(e)
	}
	if !isNamed(e) {
		panic(goWrong{})
	}
	switch e := e.(type) {
	case *ast.IndexExpr:
		return g.node(api.NIndex, e, "", g.typ(e.X), g.typ(e.Index))
	case *ast.IndexListExpr:
		n := g.node(api.NIndex, e, "", g.typ(e.X))
		for _, argument := range e.Indices {
			n.Kids = append(n.Kids, g.typ(argument))
		}
		return n
	}
	return g.expr(e)
}

func (g goModel) function(e *ast.FuncType) api.Node {
	parameters := api.Node{Kind: api.NList, At: g.at(e.Params.Opening)}
	for _, field := range e.Params.List {
		parameters.Kids = append(parameters.Kids, g.field(api.NParam, field))
	}
	at := g.at(e.Params.Opening)
	if e.Func.IsValid() {
		at = g.at(e.Func)
	}
	return api.Node{Kind: api.NFuncType, At: at, Kids: []api.Node{parameters, g.result(e.Results)}}
}

// result is one type, with brackets of its own or without.
func (g goModel) result(list *ast.FieldList) api.Node {
	if list == nil {
		return api.Node{}
	}
	if len(list.List) != 1 || len(list.List[0].Names) > 0 {
		panic(goWrong{})
	}
	n := g.typ(list.List[0].Type)
	if !list.Opening.IsValid() {
		return n
	}
	if strings.HasSuffix(strings.TrimSpace(g.source[:g.at(list.Closing)]), ",") {
		panic(goWrong{})
	}
	return api.Node{Kind: api.NParen, At: g.at(list.Opening), Kids: []api.Node{n}}
}

// field is a parameter, or a field of a struct, with one name or none.
func (g goModel) field(kind int, field *ast.Field) api.Node {
	if len(field.Names) > 1 || field.Tag != nil {
		panic(goWrong{})
	}
	text := ""
	if len(field.Names) == 1 {
		text = field.Names[0].Name
	}
	return g.node(kind, field, text, g.typ(field.Type))
}

func (g goModel) structure(e *ast.StructType) api.Node {
	n := g.node(api.NStruct, e, "")
	for _, field := range e.Fields.List {
		kid := g.field(api.NField, field)
		inner := kid.Kids[0]
		if inner.Kind == api.NStar {
			inner = inner.Kids[0]
		}
		if kid.Text == "" && inner.Kind != api.NName && inner.Kind != api.NDot {
			panic(goWrong{})
		}
		n.Kids = append(n.Kids, kid)
	}
	return n
}

func (g goModel) iface(e *ast.InterfaceType) api.Node {
	n := g.node(api.NInterface, e, "")
	for _, member := range e.Methods.List {
		if len(member.Names) == 0 {
			n.Kids = append(n.Kids, g.node(api.NUnion, member, "", g.terms(member.Type)...))
			continue
		}
		n.Kids = append(n.Kids, g.field(api.NMethod, member))
	}
	return n
}

func (g goModel) terms(e ast.Expr) []api.Node {
	if pair, ok := e.(*ast.BinaryExpr); ok && pair.Op == token.OR {
		return append(g.terms(pair.X), g.terms(pair.Y)...)
	}
	if sign, ok := e.(*ast.UnaryExpr); ok && sign.Op == token.TILDE {
		return []api.Node{g.node(api.NTilde, sign, "", g.typ(sign.X))}
	}
	return []api.Node{g.typ(e)}
}
