package parseexpr_test

import (
	"strings"
	"testing"
)

func TestOperands(t *testing.T) {
	for source, want := range map[string]string{
		"a": "a", "_": "_", "true": "true", "0": "int:0", "12": "int:12", "0x1F": "int:0x1F", "0b1": "int:0b1", "0o7": "int:0o7",
		"1.": "float:1.", ".5": "float:.5", "1e3": "float:1e3", "0x1p-2": "float:0x1p-2",
		`"a"`: `string:"a"`, `"\"\u00e4"`: `string:"\"\u00e4"`, `""`: `string:""`, "`a\nb`": "string:`a\nb`", "\"ä\"": "string:\"ä\"",
		"`\xc3\xa4`": "string:`\xc3\xa4`",
		"(a)":        "paren(a)", "((1))": "paren(paren(int:1))", "(a + b)": "paren(+(a b))", "([]a)": "paren(slice(a))", "(*a)": "paren(star(a))",
		"(\na +\nb)": "paren(+(a b))", "(func())": "paren(func(list -))",
	} {
		expectExpr(t, source, want)
	}
	expectNoExpr(t, "(", "()", "(a", "a)", "(a,)", "(a, b)", "(a b)", "(a;)", "(a\n)", "(a...)", "(a: b)", "((a)", "(,a)", "{}", "{1}",
		"{a: b}", "{a}", "func() {}", "func() a {}", "func() { return }", "func(a b) c { return d }", "f(func() {})", "(func() {})()",
		"func() {}()")
}

func ranks() [][]string {
	return [][]string{{"||"}, {"&&"}, {"==", "!=", "<", "<=", ">", ">="}, {"+", "-", "|", "^"}, {"*", "/", "%", "&", "&^"}}
}

// Operators of every rank beside one another, without brackets and with them.
func TestBinaryOperators(t *testing.T) {
	for i, firsts := range ranks() {
		for _, first := range firsts {
			expectExpr(t, "a"+first+"b", first+"(a b)")
			expectExpr(t, "a\t"+first+"\n"+"b", first+"(a b)")
			expectNoExpr(t, "a "+first, first+" ;", "a\n"+first+" / b", "a "+first+" "+first, "a "+first+")", "("+first+" )",
				"a "+first+" ; b", "a "+first+" , b")
			for j, seconds := range ranks() {
				for _, second := range seconds {
					expectPair(t, first, second, j > i)
				}
			}
		}
	}
}

func expectPair(t *testing.T, first, second string, tighter bool) {
	t.Helper()
	left, right := second+"("+first+"(a b) c)", first+"(a "+second+"(b c))"
	plain := left
	if tighter {
		plain = right
	}
	expectExpr(t, "a "+first+" b "+second+" c", plain)
	expectExpr(t, "(a "+first+" b) "+second+" c", strings.Replace(left, first+"(a b)", "paren("+first+"(a b))", 1))
	expectExpr(t, "a "+first+" (b "+second+" c)", strings.Replace(right, second+"(b c)", "paren("+second+"(b c))", 1))
}

func TestManyBinaryOperators(t *testing.T) {
	for source, want := range map[string]string{
		"a + b*c - d":                       "-(+(a *(b c)) d)",
		"a - b - c - d":                     "-(-(-(a b) c) d)",
		"a / b * c % d & e &^ f":            "&^(&(%(*(/(a b) c) d) e) f)",
		"a + b - c | d ^ e":                 "^(|(-(+(a b) c) d) e)",
		"a == b != c < d <= e > f >= g":     ">=(>(<=(<(!=(==(a b) c) d) e) f) g)",
		"a || b && c == d + e * f":          "||(a &&(b ==(c +(d *(e f)))))",
		"a * b + c == d && e || f":          "||(&&(==(+(*(a b) c) d) e) f)",
		"a || b && c || d && e":             "||(||(a &&(b c)) &&(d e))",
		"a && b || c && d":                  "||(&&(a b) &&(c d))",
		"a * b + c * d == e - f / g && h":   "&&(==(+(*(a b) *(c d)) -(e /(f g))) h)",
		"a + b < c * d || !e && f[g] > h()": "||(<(+(a b) *(c d)) &&(!(e) >(index(f g) call(h))))",
		"a & ^b &^ c":                       "&^(&(a ^(b)) c)",
		"a &^ ^b":                           "&^(a ^(b))",
		"a&^b":                              "&^(a b)",
		"a&&b":                              "&&(a b)",
		"a&&&b":                             "&&(a &(b))",
		"a *b* c":                           "*(*(a b) c)",
		"a - -b":                            "-(a -(b))",
		"a - - - b":                         "-(a -(-(b)))",
		"a -\n-b":                           "-(a -(b))",
		"a * *b":                            "*(a star(b))",
		"a ** b":                            "*(a star(b))",
		"a***b":                             "*(a star(star(b)))",
		"a == -b * c":                       "==(a *(-(b) c))",
		"1+2.5+\"s\"":                       "+(+(int:1 float:2.5) string:\"s\")",
		"[]a == nil":                        "==(slice(a) nil)",
		"struct{}{} == x":                   "==(lit(struct) x)",
		"[]a * b":                           "*(slice(a) b)",
		"func(a) + b":                       "+(func(list(param(a)) -) b)",
		"a.b + c.d * e.f.g":                 "+(dot:b(a) *(dot:d(c) dot:g(dot:f(e))))",
		"x /* + */ + /* - */ y":             "+(x y)",
		"a != b == (c != d)":                "==(!=(a b) paren(!=(c d)))",
		"(a || b) && (c || d)":              "&&(paren(||(a b)) paren(||(c d)))",
		"a+(b+(c+(d+e)))":                   "+(a paren(+(b paren(+(c paren(+(d e)))))))",
		"a <- b":                            "<(a -(b))",
		"func() -a":                         "-(func(list -) a)",
		"a < b":                             "<(a b)",
		"a <= -1":                           "<=(a -(int:1))",
		"x.(T) == y.(*U)":                   "==(assert(x T) assert(y star(U)))",
		"a ^ ^b ^ c":                        "^(^(a ^(b)) c)",
		"a | b || c | d":                    "||(|(a b) |(c d))",
		"a % b % c":                         "%(%(a b) c)",
		"&a == &b && *c != *d":              "&&(==(&(a) &(b)) !=(star(c) star(d)))",
		"f(a) + g[b] - T{c} * []U{d} / map[e]f{}": "-(+(call(f a) index(g b)) /(*(lit(T c) lit(slice(U) d)) lit(map(e f))))",
	} {
		expectExpr(t, source, want)
	}
	expectNoExpr(t, "a + / b", "a + + ", "a || || b", "a = b", "a =< b", "a =! b", "a <> b", "a ! b", "a ~ b", "a +\n", "a\n+ / b",
		"a += b", "a &^= b", "a ? b : c", "a << 1", "a >> 1", "a == = b", "a & & ", "a === b")
}

// Unary operators one ahead of another.
func TestUnaryOperators(t *testing.T) {
	signs := strings.Fields("+ - ! ^ & *")
	kind := func(sign string) string {
		if sign == "*" {
			return "star"
		}
		return sign
	}
	for _, first := range signs {
		a := kind(first)
		for source, want := range map[string]string{
			"a": "a", "1": "int:1", ".5": "float:.5", `"s"`: `string:"s"`, "a.b": "dot:b(a)", "a[b]": "index(a b)", "a()": "call(a)",
			"a.(b)": "assert(a b)", "a{}": "lit(a)", "(a)": "paren(a)", "(a + b)": "paren(+(a b))",
			"[]a{}": "lit(slice(a))", "[]a": "slice(a)", "[n]a": "array(n a)", "map[a]b{}": "lit(map(a b))", "struct{}{}": "lit(struct)",
			"interface{}(a)": "call(interface a)", "func()": "func(list -)", "a.b.c[d](e).f": "dot:f(call(index(dot:c(dot:b(a)) d) e))",
		} {
			expectExpr(t, first+" "+source, a+"("+want+")")
			expectExpr(t, first+"\n"+source, a+"("+want+")")
		}
		expectExpr(t, first+"a + b", "+("+a+"(a) b)")
		expectExpr(t, "a + "+first+"b", "+(a "+a+"(b))")
		expectExpr(t, first+"a * "+first+" b", "*("+a+"(a) "+a+"(b))")
		expectExpr(t, "("+first+"a).b", "dot:b(paren("+a+"(a)))")
		expectNoExpr(t, first, first+" "+first, first+";", first+")", "("+first+")", "a "+first+" ;", "a."+first+"b", "f("+first+")",
			first+",", first+"/ a", first+"]", first+"~a")
		for _, second := range signs {
			b := kind(second)
			expectExpr(t, first+" "+second+" a", a+"("+b+"(a))")
			expectExpr(t, first+" ("+second+" a)", a+"(paren("+b+"(a)))")
			for _, third := range signs {
				expectExpr(t, first+" "+second+" "+third+" a.b", a+"("+b+"("+kind(third)+"(dot:b(a))))")
			}
		}
	}
	expectNoExpr(t, "--a", "++a", "&&a", "&^a", "*&^a", "&^ ^a", "+=a", "~a", "<-a", "=a", "/a", "a!", "a^", "a-", "a&")
	expectExpr(t, "!!a", "!(!(a))")
}

func TestSuffixes(t *testing.T) {
	for source, want := range map[string]string{
		"a.b": "dot:b(a)", "a.b.c": "dot:c(dot:b(a))", "a . b": "dot:b(a)", "a.\nb": "dot:b(a)", "a._": "dot:_(a)", "1 .x": "dot:x(int:1)",
		"1. .x": "dot:x(float:1.)", `"a".b`: `dot:b(string:"a")`, "(a).b": "dot:b(paren(a))",
		"a.(b)": "assert(a b)", "a.(*T).y": "dot:y(assert(a star(T)))", "a . ( []b )": "assert(a slice(b))",
		"a.(b).(c)": "assert(assert(a b) c)", "a.(func(b) c)": "assert(a func(list(param(b)) c))", "a.((b))": "assert(a paren(b))",
		"a.(interface{m()})": "assert(a interface(method:m(func(list -))))", "a.(struct{b})": "assert(a struct(field(b)))",
		"a.(T[b])": "assert(a index(T b))", "1 .(a)": "assert(int:1 a)", "a.(\nb)": "assert(a b)",
		"a[b]": "index(a b)", "a[b,]": "index(a b)", "a[b, c]": "index(a b c)", "a[b, c, d,]": "index(a b c d)", "a[1]": "index(a int:1)",
		"a[b][c]": "index(index(a b) c)", "a[b[c]]": "index(a index(b c))", "a[-1]": "index(a -(int:1))",
		"a[b+c, 2]": "index(a +(b c) int:2)", "a[\nb,\nc,\n]": "index(a b c)", "a[[]b]": "index(a slice(b))",
		"a[map[b]c, *d]": "index(a map(b c) star(d))", "a[func()]": "index(a func(list -))", "(a)[b]": "index(paren(a) b)",
		`"a"[b]`: `index(string:"a" b)`, "a[T{}]": "index(a lit(T))",
		"a()": "call(a)", "a(b)": "call(a b)", "a(b,)": "call(a b)", "a(b, c)": "call(a b c)", "a(b, c, d,)": "call(a b c d)",
		"a()()": "call(call(a))", "a(b)(c)": "call(call(a b) c)", "a(b(c))": "call(a call(b c))", "a(\nb,\nc,\n)": "call(a b c)",
		"a(\n)": "call(a)", "1(2)": "call(int:1 int:2)", "a([]b, 3)": "call(a slice(b) int:3)",
		"make(map[a]b, 1)": "call(make map(a b) int:1)", "a(func(int) bool)": "call(a func(list(param(int)) bool))",
		"a.b(c).d[e](f)": "call(index(dot:d(call(dot:b(a) c)) e) f)", "a[b](c)": "call(index(a b) c)", "a[b, c](d)": "call(index(a b c) d)",
		"a.(b)(c)[d]": "index(call(assert(a b) c) d)",
		"a().b().c()": "call(dot:c(call(dot:b(call(a)))))", "-a.b[c](d, e ...)": "-(call:...(index(dot:b(a) c) d e))",
	} {
		expectExpr(t, source, want)
	}
	expectNoExpr(t, "a.", "a. ", "a..b", "a. .b", "a.1", "a.(", "a.()", "a.(b", "a.(1)", "a.(b,)", "a.(b, c)", "a.(b;)", "a.(b\n)",
		"a.(type)", "(a.(type))", "f(a.(type))", "a.(type).b", "a.[b]", "a.{}", `a."b"`, "a\n.b", "a\n(b)", "a\n[b]", "a\n{}", "a.b.", ".a",
		"a.(b+c)", "a.(b())",
		"a[]", "a[,]", "a[b", "a[b,,]", "a[,b]", "a[b c]", "a[b;]", "a[b\n]", "a[b:c]", "a[:]", "a[b:]", "a[:b]", "a[b:c:d]", "a[b...]",
		"a[b]]", "a]", "a[b, c: d]", "a[(b]",
		"a(", "a(b", "a(,)", "a(b,,)", "a(,b)", "a(b c)", "a(b;)", "a(b\n)", "a(b, c\n)", "a(b: c)", "a(b = c)", "a(b))", "a)", "a(;)",
		"a({})", "a(b, {c})", "a(b;c)", "a()b", "a(b)(")
}

func TestSpreads(t *testing.T) {
	for source, want := range map[string]string{
		"f(a...)": "call:...(f a)", "f(a ...)": "call:...(f a)", "f(a...,)": "call:...(f a)", "f(a... , )": "call:...(f a)",
		"f(a,b...)": "call:...(f a b)", "f(a, b, c...,\n)": "call:...(f a b c)", "f(a.b...)": "call:...(f dot:b(a))",
		"f(a[b]...)": "call:...(f index(a b))", "f(a()...)": "call:...(f call(a))", "f(1 ...)": "call:...(f int:1)",
		"f(1. ...)": "call:...(f float:1.)", "f(a + b...)": "call:...(f +(a b))", "f(-a...)": "call:...(f -(a))",
		"f([]a{}...)": "call:...(f lit(slice(a)))", `f("a"...)`: `call:...(f string:"a")`, "f(a.(b)...)": "call:...(f assert(a b))",
		"f([]a...)": "call:...(f slice(a))", "f([]p.a...)": "call:...(f slice(dot:a(p)))", "f(*a...)": "call:...(f star(a))",
		"f(func()...)": "call:...(f func(list -))", "f((a)...)": "call:...(f paren(a))", "f(g(a...)...)": "call:...(f call:...(g a))",
		"f(g(a...), b)": "call(f call:...(g a) b)", "f(a...)(b...)": "call:...(call:...(f a) b)", "f(a...).b": "dot:b(call:...(f a))",
		"f(a/**/...)": "call:...(f a)", "f(a...\n,)": "call:...(f a)", "f(a\t...\n)": "call:...(f a)", "f(T{}...)": "call:...(f lit(T))",
		"f[a](b...)": "call:...(index(f a) b)", "f(a, []b{c}...)": "call:...(f a lit(slice(b) c))",
	} {
		expectExpr(t, source, want)
	}
	expectNoExpr(t, "f(a\n...)", "f(a . . .)", "f(a. ..)", "f(a.. .)", "f(a./**/..)", "f(a../**/.)", "f(a.\n..)", "f(a..)", "f(a.)",
		"f(a....)", "f(a... ...)", "f(a......)", "f(a, ...)", "f(...)", "f(..., a)", "f(...a)", "f(a... b)", "f(a..., b)", "f(a..., b...)",
		"f(a...,,)", "f(a...;)", "f(a...)...", "a...", "(a...)", "a[b...]", "T{a...}", "T{a: b...}", "a.(b...)", "[a...]b", "[...]b",
		"func(a...)", "func(...a)", "func(a ...b)", "f(a...", "f(a...1)", "f(a...].", "f(a...b)", "f(a..b)", "f(a...(b))", "f(,a...)",
		"f(a.... )", "f(a ... .5)", "G[a...]", "f(-...)", "f(a +...)")
}

func TestElements(t *testing.T) {
	for source, want := range map[string]string{
		"T{}": "lit(T)", "T { }": "lit(T)", "T{\n}": "lit(T)", "T{a}": "lit(T a)", "T{a,}": "lit(T a)", "T{a, b}": "lit(T a b)",
		"T{a, b, c,}": "lit(T a b c)", "T{\na,\nb,\n}": "lit(T a b)", "T{a: b}": "lit(T key(a b))", "T{a: b,}": "lit(T key(a b))",
		"T{1, a: 2,}": "lit(T int:1 key(a int:2))", "T{a: b, c, d: e}": "lit(T key(a b) c key(d e))",
		"T{a + b: c * d}": "lit(T key(+(a b) *(c d)))", "T{a:\nb}": "lit(T key(a b))",
		"p.T{a}": "lit(dot:T(p) a)", "T[a]{b}": "lit(index(T a) b)", "T[a, b]{c: d}": "lit(index(T a b) key(c d))",
		"p.T[a]{}": "lit(index(dot:T(p) a))", "m[int, string]{}": "lit(index(m int string))", "T[1]{}": "lit(index(T int:1))",
		"[]T{}": "lit(slice(T))", "[]T{a, 1: b}": "lit(slice(T) a key(int:1 b))", "[3]T{a}": "lit(array(int:3 T) a)",
		"[n][]T{a}": "lit(array(n slice(T)) a)", "map[a]b{c: d}": "lit(map(a b) key(c d))",
		"map[string][]int{}": "lit(map(string slice(int)))", "struct{}{}": "lit(struct)", "struct{a b}{c}": "lit(struct(field:a(b)) c)",
		"struct{a}{a: b}": "lit(struct(field(a)) key(a b))",
		"[]*T{}":          "lit(slice(star(T)))", "[]p.T{a}": "lit(slice(dot:T(p)) a)", "[]T[a]{b}": "lit(slice(index(T a)) b)",
		"[](T){}": "lit(slice(paren(T)))", "[]func(){}": "lit(slice(func(list -)))", "[]func() a{}": "lit(slice(func(list a)))",
		"[]struct{}{}": "lit(slice(struct))", "[]interface{}{}": "lit(slice(interface))", "map[a]func(){}": "lit(map(a func(list -)))",
		"map[a]struct{b}{}": "lit(map(a struct(field(b))))",
		"T{U{}}":            "lit(T lit(U))", "T{a: U{b: c}}": "lit(T key(a lit(U key(b c))))", "T{U{}: V{}}": "lit(T key(lit(U) lit(V)))",
		"[]T{T{a}, T{b}}": "lit(slice(T) lit(T a) lit(T b))", "T{&U{}}": "lit(T &(lit(U)))", "T{}.a": "dot:a(lit(T))",
		"T{}[a]": "index(lit(T) a)", "T{}()": "call(lit(T))", "T{}.(a)": "assert(lit(T) a)",
		"[3]p.T{x}[i]": "index(lit(array(int:3 dot:T(p)) x) i)", "&T{}": "&(lit(T))", "*T{}": "star(lit(T))",
		"T{} + U{}": "+(lit(T) lit(U))", "T{[]a, b}": "lit(T slice(a) b)", "T{func(): a}": "lit(T key(func(list -) a))",
		"T{(a): b}": "lit(T key(paren(a) b))", "T{f(a...)}": "lit(T call:...(f a))", "(T{})": "paren(lit(T))", "[T{}]a": "array(lit(T) a)",
		"a.b{}.c": "dot:c(lit(dot:b(a)))", "T{\"a\": 1, `b`: .5}": "lit(T key(string:\"a\" int:1) key(string:`b` float:.5))",
	} {
		expectExpr(t, source, want)
	}
	expectNoExpr(t, "T{", "T}", "T{a", "T{,}", "T{a,,}", "T{,a}", "T{a b}", "T{a;}", "T{a; b}", "T{a\n}", "T{a, b\n}", "T{a: b\n}", "T{:}",
		"T{a:}", "T{:a}", "T{a: b: c}", "T{a:, b}", "T{a = b}", "T{{}}", "T{{a}}", "T{a: {b}}", "T{{a}: b}", "[]T{{}}", "T{...}", "T{a}}",
		"T{;}", "T{case a}", "[]{}", "[n]{}", "map[a]{}", "map{}", "[...]T{}", "struct{}{", "struct{a}{b;}")
	// Elements follow types with a name of their own or of a package, instances of these, and types that begin with `[`,
	// `map` and `struct`.
	const others = "1 .5 \"s\" `s` (T) ((T)) (p.T) ([]T) a.b.c a().b a[b].c (a).b 1.5 a[b][c] p.T[a][b] a.b.c[d] (a)[b] a()[b] f() f(a) " +
		"p.f() a.(T) T{} T{}[a] T{}.b []T{} []T(a) []T[a][b] [3]T[a][b] interface{} interface{m()} interface{T} struct{}.a struct{}[a] " +
		"struct{}{} (struct{}) (interface{}) func() func(a) func()a func()struct{} func()[]T *func() +1"
	for _, operand := range strings.Fields(others) {
		expectNoExpr(t, operand+"{}", operand+" { a }", operand+"{a: b}", "f("+operand+"{})", "("+operand+"{})")
	}
}

// A conversion is a call of a type.
func TestConversions(t *testing.T) {
	for source, want := range map[string]string{
		"T(a)": "call(T a)", "p.T(a)": "call(dot:T(p) a)", "T[a](b)": "call(index(T a) b)", "[]T(a)": "call(slice(T) a)",
		"[3]T(a)": "call(array(int:3 T) a)", "[]byte(\"s\")": "call(slice(byte) string:\"s\")", "map[a]b(c)": "call(map(a b) c)",
		"(*T)(a)": "call(paren(star(T)) a)", "*T(a)": "star(call(T a))", "(func())(a)": "call(paren(func(list -)) a)",
		"(func() a)(b)": "call(paren(func(list a)) b)", "func() a(b)": "call(func(list a) b)", "func()(a)": "func(list paren(a))",
		"func()(a)(b)": "call(func(list paren(a)) b)", "struct{}(a)": "call(struct a)", "struct{a b}(c)": "call(struct(field:a(b)) c)",
		"interface{}(a)": "call(interface a)", "interface{m()}(a)": "call(interface(method:m(func(list -))) a)",
		"(T)(a)": "call(paren(T) a)", "[]T(a)[b]": "index(call(slice(T) a) b)", "[]T(a).b": "dot:b(call(slice(T) a))",
		"[]T(nil)": "call(slice(T) nil)", "[]p.T[a](b)": "call(slice(index(dot:T(p) a)) b)", "[]a[b][c]": "index(slice(index(a b)) c)",
		"[]a.b.c": "dot:c(slice(dot:b(a)))", "[]a.(b)": "assert(slice(a) b)", "[]*T(a)": "call(slice(star(T)) a)",
		"[]func()(a)": "slice(func(list paren(a)))", "struct{}.a": "dot:a(struct)", "struct{}[a]": "index(struct a)",
		"interface{}.a": "dot:a(interface)", "interface{}.(a)": "assert(interface a)", "map[a]b.c(d)": "call(map(a dot:c(b)) d)",
		"[]T(a,)": "call(slice(T) a)", "[]T(a, b)": "call(slice(T) a b)", "[]T()": "call(slice(T))", "[]T(a...)": "call:...(slice(T) a)",
	} {
		expectExpr(t, source, want)
	}
	expectNoExpr(t, "[](a", "[]T(a", "func()(a, b)", "func()(1)", "[]T[1]", "[]T[a, 1]", "[]p.T[-a]", "map[a]b[1]", "(*T(a)", "struct{}(a",
		"[]T.1", "[]T.", "[]T.(1)", "[]T.()")
}
