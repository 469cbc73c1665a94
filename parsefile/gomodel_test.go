package parsefile_test

import (
	"go/ast"
	"go/parser"
	"go/token"

	"sterling/api"
	"sterling/parseexpr"
	"sterling/parsestmt"
)

// The model is what Go's own reader makes of a file, told in the nodes of doc/06-syntax.md, without what the grammar of
// doc/09-parsefile.md has not. The expressions, types and blocks that Go's reader finds are read by parseexpr and parsestmt,
// which are held against Go's reader by themselves.

// goWrong is what the model panics with where that grammar has no such thing.
type goWrong struct{}

type goModel struct {
	start *parseexpr.Reader // at the first token
}

func goFile(source string) (n api.Node, ok bool) {
	defer func() {
		if caught := recover(); caught != nil {
			if _, own := caught.(goWrong); !own {
				panic(caught)
			}
			n, ok = api.Node{}, false
		}
	}()
	file, err := parser.ParseFile(token.NewFileSet(), "", source, parser.SkipObjectResolution)
	if err != nil {
		return api.Node{}, false
	}
	start, ok := parseexpr.New([]byte(source))
	if !ok {
		return api.Node{}, false
	}
	start.SetBlock(parsestmt.Read)
	g := goModel{start}
	n = goNode(api.NFile, file.Package, file.Name.Name)
	for _, d := range file.Decls {
		n.Kids = append(n.Kids, g.declaration(d))
	}
	return n, true
}

func must(ok bool) {
	if !ok {
		panic(goWrong{})
	}
}

func place(p token.Pos) int { return int(p) - 1 }

func goNode(kind int, p token.Pos, text string, kids ...api.Node) api.Node {
	return api.Node{Kind: kind, At: place(p), Text: text, Kids: kids}
}

// from is a reader at a place.
func (g goModel) from(p token.Pos) *parseexpr.Reader {
	r := *g.start
	for r.Peek().At < place(p) {
		r.Next()
	}
	return &r
}

// whole reads what stands from one place to another.
func (g goModel) whole(from, to token.Pos, read func(r *parseexpr.Reader) (api.Node, bool)) api.Node {
	r := g.from(from)
	n, ok := read(r)
	must(ok && r.Peek() == g.from(to).Peek())
	return n
}

func (g goModel) expr(list []ast.Expr) api.Node {
	if len(list) == 0 {
		return api.Node{}
	}
	must(len(list) == 1)
	return g.whole(list[0].Pos(), list[0].End(), func(r *parseexpr.Reader) (api.Node, bool) { return r.Expr(false) })
}

func (g goModel) typ(e ast.Expr) api.Node {
	if e == nil {
		return api.Node{}
	}
	return g.whole(e.Pos(), e.End(), (*parseexpr.Reader).Type)
}

func (g goModel) declaration(d ast.Decl) api.Node {
	if function, ok := d.(*ast.FuncDecl); ok {
		return g.function(function)
	}
	group := d.(*ast.GenDecl)
	must(!group.Lparen.IsValid())
	switch spec := group.Specs[0].(type) {
	case *ast.ImportSpec:
		must(spec.Name == nil)
		return goNode(api.NImport, group.Pos(), spec.Path.Value)
	case *ast.TypeSpec:
		must(!spec.Assign.IsValid() && (spec.TypeParams != nil || !g.beginsParameters(spec)))
		return goNode(api.NType, group.Pos(), spec.Name.Name, g.parameters(spec.TypeParams), g.typ(spec.Type))
	case *ast.ValueSpec:
		must(len(spec.Names) == 1 && (group.Tok == token.VAR || len(spec.Values) == 1))
		kind := map[token.Token]int{token.VAR: api.NVar, token.CONST: api.NConst}[group.Tok]
		return goNode(kind, group.Pos(), spec.Names[0].Name, g.typ(spec.Type), g.expr(spec.Values))
	}
	panic(goWrong{})
}

// beginsParameters tells whether what Go takes for a length begins with a name and goes on behind it.
func (g goModel) beginsParameters(spec *ast.TypeSpec) bool {
	array, ok := spec.Type.(*ast.ArrayType)
	if !ok || array.Len == nil {
		return false
	}
	_, alone := array.Len.(*ast.Ident)
	return !alone && g.from(array.Len.Pos()).Peek().Kind == api.TName
}

func (g goModel) parameters(list *ast.FieldList) api.Node {
	if list == nil {
		return api.Node{Kind: api.NList}
	}
	n := goNode(api.NList, list.Opening, "")
	for _, field := range list.List {
		must(len(field.Names) == 1)
		n.Kids = append(n.Kids, goNode(api.NParam, field.Pos(), field.Names[0].Name, g.constraint(field.Type)))
	}
	return n
}

func (g goModel) constraint(e ast.Expr) api.Node {
	terms := g.terms(e)
	if len(terms) == 1 && terms[0].Kind != api.NTilde {
		return terms[0]
	}
	union := api.Node{Kind: api.NUnion, At: terms[0].At, Kids: terms}
	return api.Node{Kind: api.NInterface, At: union.At, Kids: []api.Node{union}}
}

func (g goModel) terms(e ast.Expr) []api.Node {
	switch e := e.(type) {
	case *ast.BinaryExpr:
		must(e.Op == token.OR)
		return append(g.terms(e.X), g.terms(e.Y)...)
	case *ast.UnaryExpr:
		must(e.Op == token.TILDE)
		return []api.Node{goNode(api.NTilde, e.Pos(), "", g.typ(e.X))}
	}
	return []api.Node{g.typ(e)}
}

func (g goModel) function(d *ast.FuncDecl) api.Node {
	must(d.Body != nil && (d.Recv == nil || d.Type.TypeParams == nil))
	for _, field := range d.Type.Params.List {
		must(len(field.Names) == 1)
	}
	signature := g.whole(d.Type.Params.Opening, d.Body.Lbrace, (*parseexpr.Reader).Sig)
	block := g.whole(d.Body.Lbrace, d.Body.End(), parsestmt.Read)
	return goNode(api.NFunc, d.Pos(), d.Name.Name, g.receiver(d.Recv), g.parameters(d.Type.TypeParams), signature, block)
}

func (g goModel) receiver(list *ast.FieldList) api.Node {
	if list == nil {
		return api.Node{}
	}
	must(len(list.List) == 1 && len(list.List[0].Names) == 1)
	field := list.List[0]
	// Go has a comma behind a receiver, too.
	must(g.from(field.End()).Peek().At == place(list.Closing))
	return goNode(api.NParam, field.Pos(), field.Names[0].Name, receiverType(field.Type))
}

func receiverType(e ast.Expr) api.Node {
	if star, ok := e.(*ast.StarExpr); ok {
		return goNode(api.NStar, star.Pos(), "", receiverBase(star.X))
	}
	return receiverBase(e)
}

func receiverBase(e ast.Expr) api.Node {
	switch e := e.(type) {
	case *ast.IndexExpr:
		return goNode(api.NIndex, e.Pos(), "", plainName(e.X), plainName(e.Index))
	case *ast.IndexListExpr:
		n := goNode(api.NIndex, e.Pos(), "", plainName(e.X))
		for _, name := range e.Indices {
			n.Kids = append(n.Kids, plainName(name))
		}
		return n
	}
	return plainName(e)
}

func plainName(e ast.Expr) api.Node {
	name, ok := e.(*ast.Ident)
	must(ok)
	return goNode(api.NName, name.Pos(), name.Name)
}
