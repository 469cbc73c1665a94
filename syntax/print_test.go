package syntax_test

import (
	"strings"
	"testing"

	"sterling/api"
	"sterling/syntax"
)

// reader reads a text as one of the chapters does.
type reader func(string) (api.Node, bool)

// expectBack asks for a text of n that is read as n.
func expectBack(t *testing.T, read reader, n api.Node) {
	t.Helper()
	text := syntax.Print(n)
	if got, ok := read(text); !ok || !syntax.Eq(got, n) {
		t.Errorf("P6.2: Print(%.1000s) is %.1000q, which is read as %.1000s, %t", whole(n), text, whole(got), ok)
	}
	if again := syntax.Print(copied(n)); again != text {
		t.Errorf("P0.5: Print is %.1000q first and then %.1000q", text, again)
	}
}

// expectTree asks for a source to be read as n, by the model, and for a text of n that is read as n.
func expectTree(t *testing.T, read reader, source string, n api.Node) {
	t.Helper()
	if got, ok := read(source); !ok || !syntax.Eq(got, n) {
		t.Errorf("%q is read as %s, %t, not as %s", source, whole(got), ok, whole(n))
	}
	expectBack(t, read, n)
}

var none = api.Node{}

func paren(n api.Node) api.Node { return tree(api.NParen, "", n) }

func star(n api.Node) api.Node { return tree(api.NStar, "", n) }

func unary(op string, n api.Node) api.Node { return tree(api.NUnary, op, n) }

func binary(op string, a, b api.Node) api.Node { return tree(api.NBinary, op, a, b) }

func list(kids ...api.Node) api.Node { return tree(api.NList, "", kids...) }

func block(kids ...api.Node) api.Node { return tree(api.NBlock, "", kids...) }

func param(text string, typ api.Node) api.Node { return tree(api.NParam, text, typ) }

func function(result api.Node, params ...api.Node) api.Node {
	return tree(api.NFuncType, "", list(params...), result)
}

func stmt(n api.Node) api.Node { return tree(api.NExprStmt, "", n) }

func TestPrintOfExpressions(t *testing.T) {
	a, b, c, one := name("a"), name("b"), name("c"), tree(api.NInt, "1")
	for source, n := range map[string]api.Node{
		"a":                          a,
		"_":                          name("_"),
		"0x1F":                       tree(api.NInt, "0x1F"),
		"1.":                         tree(api.NFloat, "1."),
		".5e-3":                      tree(api.NFloat, ".5e-3"),
		`"a\n\"\u00e4"`:              tree(api.NString, `"a\n\"\u00e4"`),
		"`a\r\n\t// b`":              tree(api.NString, "`a\r\n\t// b`"),
		"a.b":                        tree(api.NDot, "b", a),
		"a.b.c":                      tree(api.NDot, "c", tree(api.NDot, "b", a)),
		"1 .b":                       tree(api.NDot, "b", one),
		"1. .b":                      tree(api.NDot, "b", tree(api.NFloat, "1.")),
		`"".b`:                       tree(api.NDot, "b", tree(api.NString, `""`)),
		"a[b]":                       tree(api.NIndex, "", a, b),
		"a[b, c,]":                   tree(api.NIndex, "", a, b, c),
		"a()":                        tree(api.NCall, "", a),
		"a(b)":                       tree(api.NCall, "", a, b),
		"a(b, c,)":                   tree(api.NCall, "", a, b, c),
		"a(b...)":                    tree(api.NCall, "...", a, b),
		"a(b, c...,)":                tree(api.NCall, "...", a, b, c),
		"a(1 ...)":                   tree(api.NCall, "...", a, one),
		"a(b, c + -1 ...)":           tree(api.NCall, "...", a, b, binary("+", c, unary("-", one))),
		"a(*.5 ...)":                 tree(api.NCall, "...", a, star(tree(api.NFloat, ".5"))),
		"[]a(b)":                     tree(api.NCall, "", tree(api.NSlice, "", a), b),
		"func() a(b)":                tree(api.NCall, "", function(a), b),
		"(func())(b)":                tree(api.NCall, "", paren(function(none)), b),
		"(a)":                        paren(a),
		"((a))":                      paren(paren(a)),
		"(*a)(b)":                    tree(api.NCall, "", paren(star(a)), b),
		"a.(b)":                      tree(api.NAssert, "", a, b),
		"1 .(*b)":                    tree(api.NAssert, "", one, star(b)),
		"a{}":                        tree(api.NLit, "", a),
		"a.b{c,}":                    tree(api.NLit, "", tree(api.NDot, "b", a), c),
		"a[b]{1: c, b: 1}":           tree(api.NLit, "", tree(api.NIndex, "", a, b), tree(api.NKey, "", one, c), tree(api.NKey, "", b, one)),
		"[]a{b, 1: c}":               tree(api.NLit, "", tree(api.NSlice, "", a), b, tree(api.NKey, "", one, c)),
		"[1]a{b{c}}":                 tree(api.NLit, "", tree(api.NArray, "", one, a), tree(api.NLit, "", b, c)),
		"map[a]b{c: 1}":              tree(api.NLit, "", tree(api.NMap, "", a, b), tree(api.NKey, "", c, one)),
		"struct{}{}":                 tree(api.NLit, "", tree(api.NStruct, "")),
		"struct{a b}{a: 1}":          tree(api.NLit, "", tree(api.NStruct, "", tree(api.NField, "a", b)), tree(api.NKey, "", a, one)),
		"func() {}":                  tree(api.NFuncLit, "", function(none), block()),
		"func(a b) c { return a }":   tree(api.NFuncLit, "", function(c, param("a", b)), block(tree(api.NReturn, "", a))),
		"func(a) {}(b)":              tree(api.NCall, "", tree(api.NFuncLit, "", function(none, param("", a)), block()), b),
		"func() interface{} { a() }": tree(api.NFuncLit, "", function(tree(api.NInterface, "")), block(stmt(tree(api.NCall, "", a)))),
	} {
		expectTree(t, modelExpr, source, n)
	}
}

func TestPrintOfOperators(t *testing.T) {
	ops := strings.Fields("* / % & &^ + - | ^ == != < <= > >= && ||")
	unaries := append(strings.Fields("+ - ! ^ &"), "*")
	sign := func(op string, n api.Node) api.Node {
		if op == "*" {
			return star(n)
		}
		return unary(op, n)
	}
	a, b, c := name("a"), name("b"), name("c")
	for i, first := range ops {
		expectTree(t, modelExpr, "a"+first+"b", binary(first, a, b))
		for j, second := range ops {
			expectTree(t, modelExpr, "(a"+first+"b)"+second+"c", binary(second, paren(binary(first, a, b)), c))
			expectTree(t, modelExpr, "a"+first+"(b"+second+"c)", binary(first, a, paren(binary(second, b, c))))
			tighter := rankOf(j) > rankOf(i)
			if tighter {
				expectTree(t, modelExpr, "a "+first+" b "+second+" c", binary(first, a, binary(second, b, c)))
			} else {
				expectTree(t, modelExpr, "a "+first+" b "+second+" c", binary(second, binary(first, a, b), c))
			}
		}
		for _, op := range unaries {
			expectTree(t, modelExpr, "a "+first+" "+op+" b", binary(first, a, sign(op, b)))
			expectTree(t, modelExpr, op+" a "+first+" b", binary(first, sign(op, a), b))
			expectTree(t, modelExpr, op+" (a "+first+" b)", sign(op, paren(binary(first, a, b))))
		}
	}
	for _, first := range unaries {
		for _, second := range unaries {
			expectTree(t, modelExpr, first+" "+second+" a", sign(first, sign(second, a)))
			for _, third := range unaries {
				expectTree(t, modelExpr, first+" "+second+" "+third+" a", sign(first, sign(second, sign(third, a))))
			}
		}
		expectTree(t, modelExpr, first+"1", sign(first, tree(api.NInt, "1")))
		expectTree(t, modelExpr, first+".5", sign(first, tree(api.NFloat, ".5")))
		expectTree(t, modelExpr, first+"a.b", sign(first, tree(api.NDot, "b", a)))
		expectTree(t, modelExpr, "("+first+"a).b", tree(api.NDot, "b", paren(sign(first, a))))
		expectTree(t, modelExpr, first+"a{}", sign(first, tree(api.NLit, "", a)))
	}
}

// rankOf is how tight the i-th binary operator binds.
func rankOf(i int) int {
	for rank, end := range []int{5, 9, 15, 16} {
		if i < end {
			return 5 - rank
		}
	}
	return 1
}

func TestPrintOfTypes(t *testing.T) {
	a, b, c, one := name("a"), name("b"), name("c"), tree(api.NInt, "1")
	field := func(text string, typ api.Node) api.Node { return tree(api.NField, text, typ) }
	union := func(terms ...api.Node) api.Node { return tree(api.NUnion, "", terms...) }
	tilde := func(n api.Node) api.Node { return tree(api.NTilde, "", n) }
	for source, n := range map[string]api.Node{
		"a":                  a,
		"a.b":                tree(api.NDot, "b", a),
		"a[b]":               tree(api.NIndex, "", a, b),
		"a.b[c, a.b]":        tree(api.NIndex, "", tree(api.NDot, "b", a), c, tree(api.NDot, "b", a)),
		"(a)":                paren(a),
		"*a":                 star(a),
		"**a":                star(star(a)),
		"[]a":                tree(api.NSlice, "", a),
		"[1]a":               tree(api.NArray, "", one, a),
		"[a + 1]*b":          tree(api.NArray, "", binary("+", a, one), star(b)),
		"[1][]a":             tree(api.NArray, "", one, tree(api.NSlice, "", a)),
		"map[a]b":            tree(api.NMap, "", a, b),
		"map[map[a]b][]c":    tree(api.NMap, "", tree(api.NMap, "", a, b), tree(api.NSlice, "", c)),
		"func()":             function(none),
		"func() a":           function(a),
		"func() (a)":         function(paren(a)),
		"func() func()":      function(function(none)),
		"func(a)":            function(none, param("", a)),
		"func(a, b,) c":      function(c, param("", a), param("", b)),
		"func(a b)":          function(none, param("a", b)),
		"func(a b, _ []c) a": function(a, param("a", b), param("_", tree(api.NSlice, "", c))),
		"func(a [1]b)":       function(none, param("a", tree(api.NArray, "", one, b))),
		"func(a []b)":        function(none, param("a", tree(api.NSlice, "", b))),
		"func(a[b])":         function(none, param("", tree(api.NIndex, "", a, b))),
		"func(a[b,], c)":     function(none, param("", tree(api.NIndex, "", a, b)), param("", c)),
		"func(a b[c])":       function(none, param("a", tree(api.NIndex, "", b, c))),
		"func(a [b](c))":     function(none, param("a", tree(api.NArray, "", b, paren(c)))),
		"func(a (b))":        function(none, param("a", paren(b))),
		"func(a *b)":         function(none, param("a", star(b))),
		"func(a.b)":          function(none, param("", tree(api.NDot, "b", a))),
		"func(a b.c)":        function(none, param("a", tree(api.NDot, "c", b))),
		"func(a func(b) c)":  function(none, param("a", function(c, param("", b)))),
		"struct{}":           tree(api.NStruct, ""),
		"struct{a b}":        tree(api.NStruct, "", field("a", b)),
		"struct{a}":          tree(api.NStruct, "", field("", a)),
		"struct{a.b; *a;}":   tree(api.NStruct, "", field("", tree(api.NDot, "b", a)), field("", star(a))),
		"struct{*a.b\n_ b;}": tree(api.NStruct, "", field("", star(tree(api.NDot, "b", a))), field("_", b)),
		"struct{a [1]b; c a[b]; b (c)}": tree(api.NStruct, "", field("a", tree(api.NArray, "", one, b)),
			field("c", tree(api.NIndex, "", a, b)), field("b", paren(c))),
		"interface{}":             tree(api.NInterface, ""),
		"interface{a()}":          tree(api.NInterface, "", tree(api.NMethod, "a", function(none))),
		"interface{a(b) c}":       tree(api.NInterface, "", tree(api.NMethod, "a", function(c, param("", b)))),
		"interface{a}":            tree(api.NInterface, "", union(a)),
		"interface{a | b}":        tree(api.NInterface, "", union(a, b)),
		"interface{~a}":           tree(api.NInterface, "", union(tilde(a))),
		"interface{~*a | []b|~c}": tree(api.NInterface, "", union(tilde(star(a)), tree(api.NSlice, "", b), tilde(c))),
		"interface{(a)|func() a}": tree(api.NInterface, "", union(paren(a), function(a))),
		"interface{a.b; a(b c); a[b]}": tree(api.NInterface, "", union(tree(api.NDot, "b", a)),
			tree(api.NMethod, "a", function(none, param("b", c))), union(tree(api.NIndex, "", a, b))),
	} {
		expectTree(t, modelType, source, n)
		expectTree(t, modelExpr, source, n)
	}
}

func TestPrintOfStatements(t *testing.T) {
	a, b, c, one := name("a"), name("b"), name("c"), tree(api.NInt, "1")
	call := tree(api.NCall, "", a)
	define := tree(api.NDefine, "a", b)
	slice := tree(api.NSlice, "", a)
	typeList := func(n api.Node) api.Node { return tree(api.NType, "a", list(), n) }
	clause := func(text string, values api.Node, kids ...api.Node) api.Node {
		return tree(api.NCase, text, values, block(kids...))
	}
	loop := func(kids ...api.Node) api.Node { return tree(api.NFor, "", append(kids, block())...) }
	choice := func(kids ...api.Node) api.Node { return tree(api.NSwitch, "", kids...) }
	for source, n := range map[string]api.Node{
		"var a b":                       tree(api.NVar, "a", b, none),
		"var a = b":                     tree(api.NVar, "a", none, b),
		"var _ []b = c":                 tree(api.NVar, "_", tree(api.NSlice, "", b), c),
		"var a func() = b":              tree(api.NVar, "a", function(none), b),
		"const a = 1":                   tree(api.NConst, "a", none, one),
		"const a b = 1":                 tree(api.NConst, "a", b, one),
		"type a b":                      typeList(b),
		"type a [b]c":                   typeList(tree(api.NArray, "", b, c)),
		"type a [b + 1]c":               typeList(tree(api.NArray, "", binary("+", b, one), c)),
		"type a struct{}":               typeList(tree(api.NStruct, "")),
		"{}":                            block(),
		"{a()\n; ;}":                    block(stmt(call)),
		"a()":                           stmt(call),
		"[]a":                           stmt(slice),
		"a := b":                        define,
		"a = b":                         tree(api.NAssign, "=", a, b),
		"*a += -b":                      tree(api.NAssign, "+=", star(a), unary("-", b)),
		"a++":                           tree(api.NIncDec, "++", a),
		"1--":                           tree(api.NIncDec, "--", one),
		"defer a()":                     tree(api.NDefer, "", call),
		"return":                        tree(api.NReturn, "", none),
		"return func()":                 tree(api.NReturn, "", function(none)),
		"break":                         tree(api.NBreak, ""),
		"break a":                       tree(api.NBreak, "a"),
		"continue":                      tree(api.NContinue, ""),
		"continue a":                    tree(api.NContinue, "a"),
		"if a {}":                       tree(api.NIf, "", none, a, block(), none),
		"if ; a {}":                     tree(api.NIf, "", none, a, block(), none),
		"if a := b; c {} else {a()}":    tree(api.NIf, "", define, c, block(), block(stmt(call))),
		"if a(); c {} else if b {}":     tree(api.NIf, "", stmt(call), c, block(), tree(api.NIf, "", none, b, block(), none)),
		"if (a{}) == []a{} {}":          tree(api.NIf, "", none, binary("==", paren(tree(api.NLit, "", a)), tree(api.NLit, "", slice)), block(), none),
		"if func() {} == a {}":          tree(api.NIf, "", none, binary("==", tree(api.NFuncLit, "", function(none), block()), a), block(), none),
		"if func(); a {}":               tree(api.NIf, "", stmt(function(none)), a, block(), none),
		"for {}":                        loop(none, none, none),
		"for ;; {}":                     loop(none, none, none),
		"for a {}":                      loop(none, a, none),
		"for ; a; {}":                   loop(none, a, none),
		"for a := b; ; {}":              loop(define, none, none),
		"for a := b; c\n{}":             loop(define, c, none),
		"for a := b; c; a++ {}":         loop(define, c, tree(api.NIncDec, "++", a)),
		"for ;; a++ {}":                 loop(none, none, tree(api.NIncDec, "++", a)),
		"for ; a; b() {}":               loop(none, a, stmt(tree(api.NCall, "", b))),
		"for ; []a; {}":                 loop(none, slice, none),
		"for ; [1]a; {}":                loop(none, tree(api.NArray, "", one, a), none),
		"for ; map[a]b; {}":             loop(none, tree(api.NMap, "", a, b), none),
		"for ; struct{}; {}":            loop(none, tree(api.NStruct, ""), none),
		"for ; interface{}; {}":         loop(none, tree(api.NInterface, ""), none),
		"for ; func(); {}":              loop(none, function(none), none),
		"for ; func() a\n{}":            loop(none, function(a), none),
		"for ; a == *[]a; {}":           loop(none, binary("==", a, star(slice)), none),
		"for ; -a + *func()\n{}":        loop(none, binary("+", unary("-", a), star(function(none))), none),
		"for []a{} {}":                  loop(none, tree(api.NLit, "", slice), none),
		"for func() {} {}":              loop(none, tree(api.NFuncLit, "", function(none), block()), none),
		"for range a {}":                tree(api.NRange, "", none, none, a, block()),
		"for a := range b {}":           tree(api.NRange, "", a, none, b, block()),
		"for _, a := range []a{} {a()}": tree(api.NRange, "", name("_"), a, tree(api.NLit, "", slice), block(stmt(call))),
		"switch {}":                     choice(none, none),
		"switch ; {}":                   choice(none, none),
		"switch a {}":                   choice(none, a),
		"switch a\n{}":                  choice(stmt(a), none),
		"switch []a; {}":                choice(stmt(slice), none),
		"switch a := b; {}":             choice(define, none),
		"switch a := b; c {}":           choice(define, c),
		"switch {default:}":             choice(none, none, clause("default", list())),
		"switch a {case b: a(); case 1, c: default: b; ; c}": choice(none, a, clause("case", list(b), stmt(call)),
			clause("case", list(one, c)), clause("default", list(), stmt(b), stmt(c))),
		"switch a.(type) {}":          tree(api.NTypeSwitch, "", a),
		"switch 1 .(type) {}":         tree(api.NTypeSwitch, "", one),
		"switch b := a.b().(type) {}": tree(api.NTypeSwitch, "b", tree(api.NCall, "", tree(api.NDot, "b", a))),
		"switch a.(type) {case []a, func(): a(); default:}": tree(api.NTypeSwitch, "", a,
			clause("case", list(slice, function(none)), stmt(call)), clause("default", list())),
		"a: for {}":             tree(api.NLabel, "a", loop(none, none, none)),
		"a: for range b {}":     tree(api.NLabel, "a", tree(api.NRange, "", none, none, b, block())),
		"a:\nswitch {}":         tree(api.NLabel, "a", choice(none, none)),
		"a: switch b.(type) {}": tree(api.NLabel, "a", tree(api.NTypeSwitch, "", b)),
		"a = func() {a(); func() {}()}": tree(api.NAssign, "=", a, tree(api.NFuncLit, "", function(none), block(stmt(call),
			stmt(tree(api.NCall, "", tree(api.NFuncLit, "", function(none), block())))))),
	} {
		expectTree(t, modelBlock, "{"+source+"}", block(n))
		expectTree(t, modelBlock, "{"+source+";"+source+"}", block(n, n))
		if text := syntax.Print(n); !readsAs(modelBlock, "{"+text+"}", block(n)) || !readsAs(modelBlock, "{"+text+"\n"+text+";}", block(n, n)) {
			t.Errorf("P6.2: Print(%s) is %q, which is not read as it in a block", whole(n), text)
		}
	}
	expectTree(t, modelBlock, "{}", block())
	expectTree(t, modelBlock, "{;\n;}", block())
}

func readsAs(read reader, text string, n api.Node) bool {
	got, ok := read(text)
	return ok && syntax.Eq(got, n)
}

func TestPrintOfAssignments(t *testing.T) {
	for _, op := range strings.Fields("= += -= *= /= %= &= |= ^= &^=") {
		for _, sign := range []string{"", "+", "-", "!", "^", "&", "*"} {
			place, value := name("a"), name("b")
			if sign == "*" {
				place, value = star(place), star(value)
			} else if sign != "" {
				place, value = unary(sign, place), unary(sign, value)
			}
			expectTree(t, modelBlock, "{"+sign+"a "+op+" "+sign+"b}", block(tree(api.NAssign, op, place, value)))
		}
	}
}

func TestPrintOfFiles(t *testing.T) {
	a, b, c, one := name("a"), name("b"), name("c"), tree(api.NInt, "1")
	sum := tree(api.NInterface, "", tree(api.NUnion, "", tree(api.NTilde, "", a), b))
	fn := func(receiver, params, typ api.Node, kids ...api.Node) api.Node {
		return tree(api.NFunc, "f", receiver, params, typ, block(kids...))
	}
	file := func(kids ...api.Node) api.Node { return tree(api.NFile, "p", kids...) }
	for source, n := range map[string]api.Node{
		"":                               file(),
		"import \"a\"":                   file(tree(api.NImport, `"a"`)),
		"import `a/b`; import \"\\x61\"": file(tree(api.NImport, "`a/b`"), tree(api.NImport, `"\x61"`)),
		"import \"a\"; var a b":          file(tree(api.NImport, `"a"`), tree(api.NVar, "a", b, none)),
		"var a = 1; const a b = 1":       file(tree(api.NVar, "a", none, one), tree(api.NConst, "a", b, one)),
		"type a b":                       file(tree(api.NType, "a", list(), b)),
		"type a [b]c":                    file(tree(api.NType, "a", list(), tree(api.NArray, "", b, c))),
		"type a [1 + b]c":                file(tree(api.NType, "a", list(), tree(api.NArray, "", binary("+", one, b), c))),
		"type a []c":                     file(tree(api.NType, "a", list(), tree(api.NSlice, "", c))),
		"type a (b)":                     file(tree(api.NType, "a", list(), paren(b))),
		"type a[b c] []b":                file(tree(api.NType, "a", list(param("b", c)), tree(api.NSlice, "", b))),
		"type a[b *c] b":                 file(tree(api.NType, "a", list(param("b", star(c))), b)),
		"type a[b (c)] b":                file(tree(api.NType, "a", list(param("b", paren(c))), b)),
		"type c[b c, c ~a | b,] struct{a c[b]; *b}": file(tree(api.NType, "c", list(param("b", c), param("c", sum)),
			tree(api.NStruct, "", tree(api.NField, "a", tree(api.NIndex, "", c, b)), tree(api.NField, "", star(b))))),
		"type a[b interface{~a | b}] c": file(tree(api.NType, "a", list(param("b", sum)), c)),
		"type a[b ~c] c":                file(tree(api.NType, "a", list(param("b", tree(api.NInterface, "", tree(api.NUnion, "", tree(api.NTilde, "", c))))), c)),
		"type a[b interface{c}] c":      file(tree(api.NType, "a", list(param("b", tree(api.NInterface, "", tree(api.NUnion, "", c)))), c)),
		"func f() {}":                   file(fn(none, list(), function(none))),
		"func f(a b, b c) c { return 1 }": file(fn(none, list(), function(c, param("a", b), param("b", c)),
			tree(api.NReturn, "", one))),
		"func (a b) f() {}":     file(fn(param("a", b), list(), function(none))),
		"func (a *b) f() c {}":  file(fn(param("a", star(b)), list(), function(c))),
		"func (a b[c,]) f() {}": file(fn(param("a", tree(api.NIndex, "", b, c)), list(), function(none))),
		"func (_ *b[_, c]) f(a b) {}": file(fn(param("_", star(tree(api.NIndex, "", b, name("_"), c))), list(),
			function(none, param("a", b)))),
		"func f[a b, b ~a | b](c a) b {}": file(fn(none, list(param("a", b), param("b", sum)), function(b, param("c", a)))),
		"func f() {a: for {break a}}; var a func(); func f() {}": file(fn(none, list(), function(none), tree(api.NLabel, "a",
			tree(api.NFor, "", none, none, none, block(tree(api.NBreak, "a"))))), tree(api.NVar, "a", function(none), none), fn(none, list(), function(none))),
	} {
		expectTree(t, modelFile, "package p;"+source, n)
	}
}
