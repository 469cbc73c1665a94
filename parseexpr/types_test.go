package parseexpr_test

import (
	"strings"
	"testing"

	"sterling/parseexpr"
)

func TestNamedTypes(t *testing.T) {
	for source, want := range map[string]string{
		"a": "a", "_": "_", "int": "int", "nil": "nil", "A1_": "A1_", "types": "types", "p.T": "dot:T(p)", "p . /* of p */ T": "dot:T(p)",
		"p.\nT": "dot:T(p)",
		"T[a]":  "index(T a)", "T[a,]": "index(T a)", "T[a, b]": "index(T a b)", "T[a, b, c,]": "index(T a b c)",
		"p.T[a]":          "index(dot:T(p) a)",
		"T[p.U, *V, []W]": "index(T dot:U(p) star(V) slice(W))", "T[U[V[w]], x]": "index(T index(U index(V w)) x)",
		"T[\na,\nb,\n]":          "index(T a b)",
		"T[func(a) b, struct{}]": "index(T func(list(param(a)) b) struct)", "T[(a)]": "index(T paren(a))", "T[[n]a]": "index(T array(n a))",
	} {
		expectType(t, source, want)
	}
	expectNoExpr(t, "T[]", "T[,]", "T[a,,]", "T[,a]", "T[a b]", "T[a", "T]", "T[a;]", "T[a\n]", "T[a...]", "p.", "p..T", ".T", "p. .T",
		"p.[a]", "p.1", "p\n.T", "T[a:b]", "T[:]")
	expectNoType(t, "a.b.c", "a[b][c]", "a[b].c", "(a).b", "(a)[b]", "a[1]", "a[b, 1]", "a.b[-c]", "a[b+c]", "a[T{}]", "a[(1)]", "a[f()]",
		"a[b.c.d]", "a[b[c][d]]", "1", ".5", `"a"`, "`a`")
}

func TestSequencesAndPointers(t *testing.T) {
	for source, want := range map[string]string{
		"[]a": "slice(a)", "[][]a": "slice(slice(a))", "[n]a": "array(n a)", "[3]a": "array(int:3 a)", "[3][n]a": "array(int:3 array(n a))",
		"[a+1]T[b]": "array(+(a int:1) index(T b))", "[f(x, y...)]a": "array(call:...(f x y) a)", "[T{}.n]a": "array(dot:n(lit(T)) a)",
		"[(n)]a": "array(paren(n) a)", "[*p]a": "array(star(p) a)", "[[]a]b": "array(slice(a) b)",
		"[[3]a{}[0]]b": "array(index(lit(array(int:3 a)) int:0) b)",
		"[.5]a":        "array(float:.5 a)", `["s"]a`: `array(string:"s" a)`, "[a.b.c]d": "array(dot:c(dot:b(a)) d)", "[]p.T": "slice(dot:T(p))",
		"*a": "star(a)", "**a": "star(star(a))", "* * * p.T": "star(star(star(dot:T(p))))", "*[]*a": "star(slice(star(a)))",
		"*T[a]": "star(index(T a))",
		"*(a)":  "star(paren(a))", "(a)": "paren(a)", "((a))": "paren(paren(a))", "(*a)": "paren(star(a))",
		"(p.T[a])": "paren(index(dot:T(p) a))", "[](a)": "slice(paren(a))",
		"[n](a)": "array(n paren(a))", "(\na)": "paren(a)", "[\nn]\ta": "array(n a)",
	} {
		expectType(t, source, want)
	}
	expectNoExpr(t, "[]", "[n]", "[", "[n", "[n a", "[]1", "[n]1", "[]-a", "[,]a", "[n,]a", "[n, m]a", "[n;]a", "[n\n]a", "[]\na", "[...]a",
		"[n...]a", "[n:m]a", "[]a,", "*", "**", "* ;", "()", "(a", "a)", "(a,)", "(a, b)", "(a;)", "(a\n)", "(;a)", "((a)", "(a))", "[]~a",
		"~a", "*~a")
	expectNoType(t, "*1", "*f()", "*a.b.c", "(1)", "(a + b)", "(a())", "(-a)", "*(a[1])", "(T{})", "(*1)", "-a", "&a", "a + b", "a * b",
		"f()", "a.(b)", "T{}", "[]T{}", "[]a(b)", "[]a.b.c", "[]a[b][c]")
}

func TestMaps(t *testing.T) {
	for source, want := range map[string]string{
		"map[a]b": "map(a b)", "map[a]map[b]c": "map(a map(b c))", "map[map[a]b]c": "map(map(a b) c)",
		"map[[2]a]*T":     "map(array(int:2 a) star(T))",
		"map [ p.K ] p.V": "map(dot:K(p) dot:V(p))", "map[K[a]]V[b]": "map(index(K a) index(V b))", "map[(a)](b)": "map(paren(a) paren(b))",
		"map[func()]func() a": "map(func(list -) func(list a))", "map[interface{}]struct{}": "map(interface struct)",
		"map\n[\na]\tb": "map(a b)",
	} {
		expectType(t, source, want)
	}
	expectNoExpr(t, "map", "map[]", "map[]b", "map[a]", "map[a", "map[a b", "map a", "map[a,]b", "map[a, b]c", "map[a;]b", "map[a\n]b",
		"map[a]\nb", "map(a)b", "map[1]b", "map[a]1", "map[a+b]c", "map{}", "map[a]b]", "maps[a]b")
}

func TestFunctionTypes(t *testing.T) {
	for source, want := range map[string]string{
		"func()": "func(list -)", "func() a": "func(list a)", "func() (a)": "func(list paren(a))",
		"func()((a))":   "func(list paren(paren(a)))",
		"func() func()": "func(list func(list -))", "func() func() func() a": "func(list func(list func(list a)))",
		"func() []a": "func(list slice(a))",
		"func() *a":  "func(list star(a))", "func() [n]a": "func(list array(n a))", "func() p.T[a]": "func(list index(dot:T(p) a))",
		"func() map[a]b": "func(list map(a b))", "func() struct{}": "func(list struct)", "func() interface{}": "func(list interface)",
		"func(a)": "func(list(param(a)) -)", "func(a,)": "func(list(param(a)) -)", "func(a, b)": "func(list(param(a) param(b)) -)",
		"func(a, b, c,) d": "func(list(param(a) param(b) param(c)) d)", "func(a b)": "func(list(param:a(b)) -)",
		"func(a b,)":     "func(list(param:a(b)) -)",
		"func(a b, c d)": "func(list(param:a(b) param:c(d)) -)", "func(_ a, _ b,) c": "func(list(param:_(a) param:_(b)) c)",
		"func(a a)":        "func(list(param:a(a)) -)",
		"func(\na,\nb,\n)": "func(list(param(a) param(b)) -)", "func(p.T)": "func(list(param(dot:T(p))) -)",
		"func(p.T, q.U[a])":  "func(list(param(dot:T(p)) param(index(dot:U(q) a))) -)",
		"func(a p.T)":        "func(list(param:a(dot:T(p))) -)",
		"func(*a, []b, (c))": "func(list(param(star(a)) param(slice(b)) param(paren(c))) -)",
		"func(a *b)":         "func(list(param:a(star(b))) -)", "func(a (b))": "func(list(param:a(paren(b))) -)",
		"func(a func(b) c)":                          "func(list(param:a(func(list(param(b)) c))) -)",
		"func(a func(b c))":                          "func(list(param:a(func(list(param:b(c)) -))) -)",
		"func(a map[b]c, d struct{}, e interface{})": "func(list(param:a(map(b c)) param:d(struct) param:e(interface)) -)",
		"func(func(a b) c, func(d))":                 "func(list(param(func(list(param:a(b)) c)) param(func(list(param(d)) -))) -)",
		"func([2]int)":                               "func(list(param(array(int:2 int))) -)",
	} {
		expectType(t, source, want)
	}
	expectNoExpr(t, "func", "func(", "func)", "func a", "func a()", "func[a]()", "func(a", "func(a b", "func(,)", "func(a,,)", "func(,a)",
		"func(a;)", "func(a\n)", "func(a b\n)", "func(a b;)", "func(a b c)",
		"func()()", "func() (a, b)", "func() (a,)", "func() (a b)", "func() ()", "func() a b", "func() 1", "func() a,", "func() (1)",
		"func(1)", "func(a 1)", "func(a +)", "func(a.)", "func(a.b c)",
		"func(a.b.c)", "func(-a)", "func(a + b)", "func(f())", "func(a())", "func(a ...b)", "func(...a)", "func(a...)", "func(...)",
		"func(a [])", "func(a = b)", "func(a: b)", "func() []", "func() map", "func\n\n", "func();a")
	expectNoExpr(t, "func()[n]", "func()[1]", "func()[]", "func()(f())", "func() a[1]", "func() * 1")
}

// All parameters have names, or none has.
func TestMixedParameters(t *testing.T) {
	expectNoExpr(t, "func(a int, b)", "func(a, b int)", "func(a int, T[int])", "func(T[int], a int)", "func(a b, *c)", "func(*c, a b)",
		"func(a b, c d, e)", "func(e, a b, c d)", "func(a b, p.T)", "func(p.T, a b)",
		"func(a b, []c)", "func([]c, a b)", "func(a b, [n]c)", "func(a [n]b, c)", "func(c, a [n]b)", "func(a [n]b, c[n])",
		"func(a b, func())", "func(func(), a b)", "func(a b, (c))", "func((c), a b)", "func(a b, map[c]d)", "func(a b, struct{})",
		"func(a b, interface{})",
		"func(a b, c,)", "interface{m(a b, c)}", "interface{m(a, b c)}", "func(func(a b, c))", "func() func(a b, c)")
	expectType(t, "func(a func(b, c), d e)", "func(list(param:a(func(list(param(b) param(c)) -)) param:d(e)) -)")
	expectType(t, "func(func(a b), c)", "func(list(param(func(list(param:a(b)) -)) param(c)) -)")
}

// A name and brackets are a parameter with a name just if a type stands behind the brackets.
func TestNamesAndBrackets(t *testing.T) {
	for source, want := range map[string]string{
		"func(a[b])": "param(index(a b))", "func(a [b])": "param(index(a b))", "func(a[b,])": "param(index(a b))",
		"func(a[b, c])": "param(index(a b c))",
		"func(a [b]c)":  "param:a(array(b c))", "func(a[b]c)": "param:a(array(b c))", "func(a []b)": "param:a(slice(b))",
		"func(a[]b)":   "param:a(slice(b))",
		"func(a [3]b)": "param:a(array(int:3 b))", "func(a [b](c))": "param:a(array(b paren(c)))",
		"func(a [](c))": "param:a(slice(paren(c)))",
		"func(a [b]*c)": "param:a(array(b star(c)))", "func(a [b][c]d)": "param:a(array(b array(c d)))",
		"func(a [b][]d)":    "param:a(array(b slice(d)))",
		"func(a [b]func())": "param:a(array(b func(list -)))", "func(a [b]map[c]d)": "param:a(array(b map(c d)))",
		"func(a [b]struct{})":    "param:a(array(b struct))",
		"func(a [b]interface{})": "param:a(array(b interface))", "func(a [b]p.T)": "param:a(array(b dot:T(p)))",
		"func(a [b]c[d])": "param:a(array(b index(c d)))",
		"func(a[b[c]])":   "param(index(a index(b c)))", "func(a [b[c]]d)": "param:a(array(index(b c) d))",
		"func(a [b[c[0]][1]]d)": "param:a(array(index(index(b index(c int:0)) int:1) d))",
		"func(a[[]b])":          "param(index(a slice(b)))", "func(a [[]b{}[0]]c)": "param:a(array(index(lit(slice(b)) int:0) c))",
		"func(a[func(b [c]d)])":    "param(index(a func(list(param:b(array(c d))) -)))",
		"func(a[func(b[c])])":      "param(index(a func(list(param(index(b c))) -)))",
		"func(a[struct{b [c]d}])":  "param(index(a struct(field:b(array(c d)))))",
		"func(a [f(\"]\", `]`)]b)": "param:a(array(call(f string:\"]\" string:`]`) b))", "func(a b[c])": "param:a(index(b c))",
		"func(a b[c][d])": "",
		"func(a[b][c])":   "", "func(a[b].c)": "", "func(a[1])": "", "func(a[b] [c])": "", "func(a[b] 1)": "", "func(a [b, c]d)": "",
		"func(a [b,]c)": "", "func(a [b] c d)": "", "func(a[b]\n)": "", "func(a[b]\nc)": "",
		"func(a[b)": "", "func(a b])": "", "func(a ]b[ c)": "", "func(a [b]+)": "", "func(a [b]*)": "", "func(a[])": "",
		"func(p.a[b]c)": "", "func(p.a[b] [c]d)": "", "func([b]c[d][e])": "", "func(a [b]())": "", "func(a[(b])": "", "func(a[b)]": "",
	} {
		if want == "" {
			expectNoExpr(t, source)
			continue
		}
		expectType(t, source, "func(list("+want+") -)")
		first, behind := strings.TrimSuffix(source, ")"), ") x"
		expectType(t, first+", "+strings.TrimPrefix(source, "func(")+" x", "func(list("+want+" "+want+") x)")
		expectType(t, first+","+behind, "func(list("+want+") x)")
	}
	expectType(t, "func(p.a[b])", "func(list(param(index(dot:a(p) b))) -)")
}

func TestStructs(t *testing.T) {
	for source, want := range map[string]string{
		"struct{}": "struct", "struct { }": "struct", "struct{\n}": "struct", "struct\n{\n\n}": "struct",
		"struct{a b}": "struct(field:a(b))", "struct{a b;}": "struct(field:a(b))",
		"struct{a b\n}": "struct(field:a(b))", "struct{a b; c d}": "struct(field:a(b) field:c(d))",
		"struct{a b\nc d;\n}": "struct(field:a(b) field:c(d))",
		"struct{a}":           "struct(field(a))", "struct{a;}": "struct(field(a))", "struct{\na\n}": "struct(field(a))",
		"struct{p.T}": "struct(field(dot:T(p)))", "struct{p.T;}": "struct(field(dot:T(p)))",
		"struct{*a}": "struct(field(star(a)))", "struct{*p.T}": "struct(field(star(dot:T(p))))",
		"struct{* a\n*p.T\n}":               "struct(field(star(a)) field(star(dot:T(p))))",
		"struct { a int; *p.T; T; b [2]T }": "struct(field:a(int) field(star(dot:T(p))) field(T) field:b(array(int:2 T)))",
		"struct{_ a; _ b}":                  "struct(field:_(a) field:_(b))", "struct{a a}": "struct(field:a(a))",
		"struct{a *b}": "struct(field:a(star(b)))", "struct{a (b)}": "struct(field:a(paren(b)))",
		"struct{a []b; c [n]d}": "struct(field:a(slice(b)) field:c(array(n d)))", "struct{a p.T}": "struct(field:a(dot:T(p)))",
		"struct{a T[b]}": "struct(field:a(index(T b)))", "struct{a func()}": "struct(field:a(func(list -)))",
		"struct{a func(b) c; d}": "struct(field:a(func(list(param(b)) c)) field(d))",
		"struct{a map[b]c}":      "struct(field:a(map(b c)))", "struct{a struct{b}}": "struct(field:a(struct(field(b))))",
		"struct{a struct{b;};}":    "struct(field:a(struct(field(b))))",
		"struct{a interface{b()}}": "struct(field:a(interface(method:b(func(list -)))))",
	} {
		expectType(t, source, want)
	}
	expectNoExpr(t, "struct", "struct{", "struct}", "struct{a", "struct{a b", "struct{a;", "struct()", "struct a", "struct{;}",
		"struct{;a}", "struct{a;;}", "struct{a;;b}", "struct{a\n;}", "struct{a\n\n;b}", "struct{a, b int}", "struct{a, b}",
		"struct{a b, c d}", "struct{a b c}", "struct{a b c d}",
		"struct{T[a]}", "struct{p.T[a]}", "struct{*T[a]}", "struct{a [n]}", "struct{a []}", "struct{**a}", "struct{*(a)}", "struct{(a)}",
		"struct{(*a)}", "struct{*a b}", "struct{p.T a}", "struct{*p.T a}", "struct{*}", "struct{p.}", "struct{.T}", "struct{p.T.U}",
		"struct{*p.}", "struct{[]a}", "struct{func()}", "struct{a 1}", "struct{1}", "struct{a b `tag`}", "struct{a `tag`}",
		"struct{a \"tag\"}", "struct{a b = c}", "struct{a: b}", "struct{a.b c}", "struct{a b)}", "struct{a()}", "struct{a() b}",
		"struct{struct{}}", "struct{~a}", "struct{a | b}", "struct{a b};;", "struct{-a}")
}

func TestInterfaces(t *testing.T) {
	for source, want := range map[string]string{
		"interface{}": "interface", "interface { }": "interface", "interface{\n}": "interface", "interface\n{\n}": "interface",
		"interface{a}": "interface(union(a))", "interface{a;}": "interface(union(a))", "interface{\na\n}": "interface(union(a))",
		"interface{a; b}": "interface(union(a) union(b))", "interface{a | b}": "interface(union(a b))",
		"interface{a|b|c|d}": "interface(union(a b c d))", "interface{a |\nb}": "interface(union(a b))",
		"interface{~a}":                         "interface(union(tilde(a)))",
		"interface{~a | b | ~c; d}":             "interface(union(tilde(a) b tilde(c)) union(d))",
		"interface{p.T | ~p.T[a]}":              "interface(union(dot:T(p) tilde(index(dot:T(p) a))))",
		"interface{~[]a | *b | map[c]d | [n]e}": "interface(union(tilde(slice(a)) star(b) map(c d) array(n e)))",
		"interface{(a) | ~(b)}":                 "interface(union(paren(a) tilde(paren(b))))",
		"interface{func(a) b | c}":              "interface(union(func(list(param(a)) b) c))",
		"interface{func() | c}":                 "interface(union(func(list -) c))",
		"interface{struct{} | interface{a}}":    "interface(union(struct interface(union(a))))",
		"interface{a[b]}":                       "interface(union(index(a b)))", "interface{a[b] | c}": "interface(union(index(a b) c))",
		"interface{m()}": "interface(method:m(func(list -)))", "interface{m();}": "interface(method:m(func(list -)))",
		"interface{m ( )\n}": "interface(method:m(func(list -)))", "interface{m() a}": "interface(method:m(func(list a)))",
		"interface{m() (a)}":                                      "interface(method:m(func(list paren(a))))",
		"interface{m(a)}":                                         "interface(method:m(func(list(param(a)) -)))",
		"interface{m(a, b,) c}":                                   "interface(method:m(func(list(param(a) param(b)) c)))",
		"interface{m(a b, c T[d]) bool}":                          "interface(method:m(func(list(param:a(b) param:c(index(T d))) bool)))",
		"interface{_()}":                                          "interface(method:_(func(list -)))",
		"interface{m() func() a; n(func())}":                      "interface(method:m(func(list func(list a))) method:n(func(list(param(func(list -))) -)))",
		"interface { M(x int, y T[int]) bool; ~int | string; E }": "interface(method:M(func(list(param:x(int) param:y(index(T int))) bool)) union(tilde(int) string) union(E))",
		"interface{m()\na\nn()\n}":                                "interface(method:m(func(list -)) union(a) method:n(func(list -)))",
		"interface{m(); m()}":                                     "interface(method:m(func(list -)) method:m(func(list -)))",
	} {
		expectType(t, source, want)
	}
	expectNoExpr(t, "interface", "interface{", "interface}", "interface{a", "interface{m()", "interface()", "interface a", "interface{;}",
		"interface{;a}", "interface{a;;}", "interface{m()\n;}", "interface{a, b}", "interface{a b}", "interface{m() a b}",
		"interface{m() a, n()}", "interface{m() n()}", "interface{p.m()}",
		"interface{|}", "interface{a|}", "interface{|a}", "interface{a||b}", "interface{a\n|b}", "interface{~}", "interface{~~a}",
		"interface{a~b}", "interface{~m()}", "interface{m() | a}", "interface{a | m()}", "interface{(a|b)}", "interface{(~a)}",
		"interface{*~a}", "interface{a & b}", "interface{a + b}", "interface{1}", "interface{a | 1}", "interface{~1}", "interface{-a}",
		"interface{a.b.c}", "interface{a[1]}", "interface{a[b][c]}", "interface{m()()}", "interface{m(a b, c)}", "interface{m(,)}",
		"interface{m() (a, b)}", "interface{m[a]()}", "interface{m() {}}", "interface{a: b}", "interface{a = b}", "interface{m(a;)}",
		"interface{m(a ...b)}")
	// Behind an interface no elements stand, but it is an operand like others.
	expectExpr(t, "interface{m}(a)", "call(interface(union(m)) a)")
	expectNoExpr(t, "interface{}{}")
}

// A type is whole where it stands alone: what may stand behind an operand does not stand behind it.
func TestTypesAreNoExpressions(t *testing.T) {
	expectNoType(t, "a()", "a(b)", "a + b", "a.b.c", "a{}", "a.(b)", "[]a{}", "[]a(b)", "struct{}{}", "map[a]b{}", "struct{}.a",
		"struct{}[a]", "func() a(b)", "!a", "a[b]{}", "(a)(b)", "*a.b()", "interface{}(a)", "a == b", "*a * b")
	expectNone(t, parseexpr.Type, "func() {}")
	expectNone(t, parseexpr.Type, "a ...")
	expectNone(t, parseexpr.Type, "a.(type)")
}
