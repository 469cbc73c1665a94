package parsestmt_test

import (
	"go/ast"
	"go/parser"
	"go/token"

	"sterling/api"
	"sterling/parseexpr"
)

// The model is what Go's own reader makes of the statements of a block, told in the nodes of doc/06-syntax.md, without what
// the grammar of doc/08-parsestmt.md has not. The expressions and types that Go's reader finds are read by parseexpr, which
// is held against Go's reader by itself.

const goAhead = "package p; func f() "

// goWrong is what the model panics with where that grammar has no such thing.
type goWrong struct{}

type goModel struct {
	start  *parseexpr.Reader      // at the first token
	bodies map[int]*ast.BlockStmt // of function literals, by their places
}

// goBlock reads a source that begins with a brace.
func goBlock(source string) (n api.Node, ok bool) {
	defer func() {
		if caught := recover(); caught != nil {
			if _, own := caught.(goWrong); !own {
				panic(caught)
			}
			n, ok = api.Node{}, false
		}
	}()
	file, err := parser.ParseFile(token.NewFileSet(), "", goAhead+source, parser.SkipObjectResolution)
	if err != nil || len(file.Decls) != 1 {
		return api.Node{}, false
	}
	start, ok := parseexpr.New([]byte(source))
	if !ok {
		return api.Node{}, false
	}
	g := goModel{start: start, bodies: map[int]*ast.BlockStmt{}}
	ast.Inspect(file, func(n ast.Node) bool {
		if literal, ok := n.(*ast.FuncLit); ok {
			g.bodies[place(literal.Body.Lbrace)] = literal.Body
		}
		return true
	})
	return g.block(file.Decls[0].(*ast.FuncDecl).Body), true
}

func place(p token.Pos) int { return int(p) - 1 - len(goAhead) }

// from is a reader at a place.
func (g goModel) from(p token.Pos) *parseexpr.Reader {
	r := *g.start
	for r.Peek().At < place(p) {
		r.Next()
	}
	return &r
}

// whole reads what stands from the beginning of e to its end.
func (g goModel) whole(e ast.Expr, read func(r *parseexpr.Reader) (api.Node, bool)) api.Node {
	r := g.from(e.Pos())
	r.SetBlock(func(r *parseexpr.Reader) (api.Node, bool) {
		body := g.bodies[r.Peek().At]
		if body == nil {
			return api.Node{}, false
		}
		for r.Peek().At <= place(body.Rbrace) {
			r.Next()
		}
		return g.block(body), true
	})
	n, ok := read(r)
	if !ok || r.Peek() != g.from(e.End()).Peek() {
		panic(goWrong{})
	}
	return n
}

func (g goModel) expr(e ast.Expr, head bool) api.Node {
	if e == nil {
		return api.Node{}
	}
	return g.whole(e, func(r *parseexpr.Reader) (api.Node, bool) { return r.Expr(head) })
}

func (g goModel) typ(e ast.Expr) api.Node {
	if e == nil {
		return api.Node{}
	}
	return g.whole(e, (*parseexpr.Reader).Type)
}

func must(ok bool) {
	if !ok {
		panic(goWrong{})
	}
}

func goNode(kind int, p token.Pos, text string, kids ...api.Node) api.Node {
	return api.Node{Kind: kind, At: place(p), Text: text, Kids: kids}
}

func (g goModel) block(b *ast.BlockStmt) api.Node {
	return goNode(api.NBlock, b.Lbrace, "", g.stmts(b.List)...)
}

func (g goModel) stmts(list []ast.Stmt) []api.Node {
	var kids []api.Node
	for _, s := range list {
		if _, empty := s.(*ast.EmptyStmt); !empty {
			kids = append(kids, g.stmt(s, false))
		}
	}
	return kids
}

func (g goModel) stmt(s ast.Stmt, head bool) api.Node {
	switch s := s.(type) {
	case nil:
		return api.Node{}
	case *ast.BlockStmt:
		return g.block(s)
	case *ast.DeclStmt:
		return g.declaration(s.Decl.(*ast.GenDecl))
	case *ast.ExprStmt:
		return goNode(api.NExprStmt, s.Pos(), "", g.expr(s.X, head))
	case *ast.IncDecStmt:
		return goNode(api.NIncDec, s.Pos(), s.Tok.String(), g.expr(s.X, head))
	case *ast.AssignStmt:
		return g.assignment(s, head)
	case *ast.DeferStmt:
		return goNode(api.NDefer, s.Pos(), "", g.expr(s.Call, false))
	case *ast.ReturnStmt:
		must(len(s.Results) < 2)
		return goNode(api.NReturn, s.Pos(), "", g.expr(append(s.Results, nil)[0], false))
	case *ast.BranchStmt:
		return g.branch(s)
	case *ast.LabeledStmt:
		n := goNode(api.NLabel, s.Pos(), s.Label.Name, g.stmt(s.Stmt, false))
		switch n.Kids[0].Kind {
		case api.NFor, api.NRange, api.NSwitch, api.NTypeSwitch:
			return n
		}
	}
	return g.headed(s)
}

func (g goModel) declaration(d *ast.GenDecl) api.Node {
	must(!d.Lparen.IsValid())
	switch spec := d.Specs[0].(type) {
	case *ast.TypeSpec:
		must(spec.TypeParams == nil && !spec.Assign.IsValid())
		return goNode(api.NType, d.Pos(), spec.Name.Name, api.Node{Kind: api.NList}, g.typ(spec.Type))
	case *ast.ValueSpec:
		must(len(spec.Names) == 1 && len(spec.Values) < 2 && (d.Tok == token.VAR || len(spec.Values) == 1))
		kind := map[token.Token]int{token.VAR: api.NVar, token.CONST: api.NConst}[d.Tok]
		return goNode(kind, d.Pos(), spec.Names[0].Name, g.typ(spec.Type), g.expr(append(spec.Values, nil)[0], false))
	}
	panic(goWrong{})
}

func (g goModel) assignment(s *ast.AssignStmt, head bool) api.Node {
	must(len(s.Lhs) == 1 && len(s.Rhs) == 1 && s.Tok != token.SHL_ASSIGN && s.Tok != token.SHR_ASSIGN)
	if s.Tok != token.DEFINE {
		return goNode(api.NAssign, s.Pos(), s.Tok.String(), g.expr(s.Lhs[0], head), g.expr(s.Rhs[0], head))
	}
	name, ok := s.Lhs[0].(*ast.Ident)
	must(ok)
	return goNode(api.NDefine, s.Pos(), name.Name, g.expr(s.Rhs[0], head))
}

func (g goModel) branch(s *ast.BranchStmt) api.Node {
	kind := map[token.Token]int{token.BREAK: api.NBreak, token.CONTINUE: api.NContinue}[s.Tok]
	must(kind != 0)
	if s.Label == nil {
		return goNode(kind, s.Pos(), "")
	}
	return goNode(kind, s.Pos(), s.Label.Name)
}

// headed is the statements that have heads.
func (g goModel) headed(s ast.Stmt) api.Node {
	switch s := s.(type) {
	case *ast.IfStmt:
		return goNode(api.NIf, s.Pos(), "", g.stmt(s.Init, true), g.expr(s.Cond, true), g.block(s.Body), g.stmt(s.Else, false))
	case *ast.ForStmt:
		return goNode(api.NFor, s.Pos(), "", g.stmt(s.Init, true), g.expr(s.Cond, true), g.stmt(s.Post, true), g.block(s.Body))
	case *ast.RangeStmt:
		must(s.Key == nil || s.Tok == token.DEFINE)
		return goNode(api.NRange, s.Pos(), "", rangeName(s.Key), rangeName(s.Value), g.expr(s.X, true), g.block(s.Body))
	case *ast.SwitchStmt:
		n := goNode(api.NSwitch, s.Pos(), "", g.stmt(s.Init, true), g.expr(s.Tag, true))
		n.Kids = append(n.Kids, g.cases(s.Body)...)
		return n
	case *ast.TypeSwitchStmt:
		return g.typeSwitch(s)
	}
	panic(goWrong{})
}

func rangeName(e ast.Expr) api.Node {
	if e == nil {
		return api.Node{}
	}
	name, ok := e.(*ast.Ident)
	must(ok)
	return goNode(api.NName, name.Pos(), name.Name)
}

func (g goModel) typeSwitch(s *ast.TypeSwitchStmt) api.Node {
	// Go has a statement ahead of the one that asks for the type, or a semicolon alone.
	behind := g.from(s.Pos())
	behind.Next()
	must(behind.Peek().At == place(s.Assign.Pos()))
	name, asked := "", ast.Expr(nil)
	switch s := s.Assign.(type) {
	case *ast.ExprStmt:
		asked = s.X
	case *ast.AssignStmt:
		left, ok := s.Lhs[0].(*ast.Ident)
		must(ok)
		name, asked = left.Name, s.Rhs[0]
	}
	n := goNode(api.NTypeSwitch, s.Pos(), name, g.expr(asked.(*ast.TypeAssertExpr).X, true))
	n.Kids = append(n.Kids, g.cases(s.Body)...)
	return n
}

func (g goModel) cases(body *ast.BlockStmt) []api.Node {
	var kids []api.Node
	for _, s := range body.List {
		clause := s.(*ast.CaseClause)
		list, text := api.Node{Kind: api.NList}, "default"
		if clause.List != nil {
			list.At, text = place(clause.List[0].Pos()), "case"
		}
		for _, e := range clause.List {
			list.Kids = append(list.Kids, g.expr(e, false))
		}
		block := api.Node{Kind: api.NBlock, Kids: g.stmts(clause.Body)}
		if len(block.Kids) > 0 {
			block.At = block.Kids[0].At
		}
		kids = append(kids, goNode(api.NCase, clause.Pos(), text, list, block))
	}
	return kids
}
