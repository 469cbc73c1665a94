package parsefile_test

import (
	"strings"
	"testing"

	"sterling/parseexpr"
	"sterling/parsestmt"
)

func TestVariables(t *testing.T) {
	for source, want := range map[string]string{
		"var x T": "var:x(T -)", "var x = 1": "var:x(- int:1)", "var x T = 1": "var:x(T int:1)", "var _ = f()": "var:_(- call(f))",
		"var x []T": "var:x(slice(T) -)", "var x [2]T = y": "var:x(array(int:2 T) y)", "var x [n]T": "var:x(array(n T) -)",
		"var x[1] T":     "var:x(array(int:1 T) -)",
		"var x [n * 2]T": "var:x(array(*(n int:2) T) -)", "var x *p.T": "var:x(star(dot:T(p)) -)", "var x (T)": "var:x(paren(T) -)",
		"var x map[K]V = map[K]V{a: b}": "var:x(map(K V) lit(map(K V) key(a b)))", "var x G[T, U,]": "var:x(index(G T U) -)",
		"var x func(T) U": "var:x(sig(list(param(T)) U) -)", "var x func(a T)": "var:x(sig(list(param:a(T)) -) -)",
		"var x struct { a T; B }":          "var:x(struct(field:a(T) field(B)) -)",
		"var x interface { m(T); ~U | V }": "var:x(interface(method:m(sig(list(param(T)) -)) union(tilde(U) V)) -)",
		"var x = T{}":                      "var:x(- lit(T))", "var x = []T": "var:x(- slice(T))", "var x = &T{a: 1}": "var:x(- &(lit(T key(a int:1))))",
		"var x = a + b*c": "var:x(- +(a *(b c)))", "var x = f(a, b...)": "var:x(- call:...(f a b))",
		"var x = \"s\"": "var:x(- string:\"s\")",
		"var x = (\n1)": "var:x(- paren(int:1))", "var\nx T": "var:x(T -)", "var x = a ||\nb": "var:x(- ||(a b))",
		"var x = func(a T) U { return a }": "var:x(- funclit(sig(list(param:a(T)) U) block(return(a))))",
		"var x = func() {}()":              "var:x(- call(funclit(sig(list -) block)))",
		"var x = func()":                   "var:x(- sig(list -))", "var int int": "var:int(int -)", "var x T.U": "var:x(dot:U(T) -)",
		"var x = a.(T)":         "var:x(- assert(a T))",
		"var x = []T{1, 2,}":    "var:x(- lit(slice(T) int:1 int:2))",
		"var x [func() { y }]T": "var:x(array(funclit(sig(list -) block(do(y))) T) -)",
	} {
		expectDecl(t, source, want)
	}
}

func TestVariablesWrong(t *testing.T) {
	expectNoDecl(t, "var", "var x", "var x =", "var x T =", "var = 1", "var T = ", "var x, y T", "var x, y = 1, 2", "var x T, y T",
		"var (x T)", "var ()", "var (\nx T\n)", "var x = 1, 2",
		"var x := 1", "x := 1", "var x T := 1", "var x == 1", "var x += 1", "var x = = 1", "var x T U", "var x T = 1 2", "var x T 1",
		"var x 1", "var x \"s\"", "var 1 T", "var \"s\" T",
		"var x.y T", "var x[1]", "var *x T", "var x = 1 var y = 2", "var x [1 T", "var x []", "var x [2]", "var x map[K]", "var x struct",
		"var x { }", "var x = { }", "var x = {1}",
		"var x = if a { }", "var x = for { }", "var x = return", "var x = y := 1", "var x = y = 1", "var x = y++", "var x = var y T",
		"var x = func f() { }", "var x T { }", "var x = ()",
		"var x = a +", "var x = (a", "var x = a)", "var x = a]", "var x = f(a", "var x = [", "var x ~T", "var x T | U", "var x = a.(type)",
		"var x = a...", "var x <- T", "var x chan T",
		"var x = func() { return", "var x = func() { y z }", "var x = func() { var }", "var x = func() { import \"a\" }",
		"var x = func() { func f() { } }",
		"var x = func() { type T[P C] U }", "var x = func() }", "var x T\n= 1", "var x\nT", "var x\n= 1", "var x T;= 1", "var;x T")
}

func TestConstants(t *testing.T) {
	for source, want := range map[string]string{
		"const c = 1": "const:c(- int:1)", "const c T = 1": "const:c(T int:1)", "const _ = f(a)": "const:_(- call(f a))",
		"const c p.T = 1.5": "const:c(dot:T(p) float:1.5)",
		"const c []T = x":   "const:c(slice(T) x)", "const c = \"a\" + `b`": "const:c(- +(string:\"a\" string:`b`))",
		"const c = -1": "const:c(- -(int:1))", "const\nc =\n1": "const:c(- int:1)",
		"const c = T(1)": "const:c(- call(T int:1))", "const c G[T] = (d)": "const:c(index(G T) paren(d))",
		"const c = func() { d }": "const:c(- funclit(sig(list -) block(do(d))))",
		"const c func() = d":     "const:c(sig(list -) d)", "const c = []T": "const:c(- slice(T))", "const iota = iota": "const:iota(- iota)",
	} {
		expectDecl(t, source, want)
	}
	expectNoDecl(t, "const", "const c", "const c T", "const c =", "const c T =", "const = 1", "const c := 1", "const c, d = 1, 2",
		"const (c = 1)", "const ()", "const (\nc = 1\n)", "const c = 1, 2",
		"const c 1", "const 1 = c", "const c T U = 1", "const c = 1 2", "const c == 1", "const c += 1", "const c.d = 1", "const *c = 1",
		"const c T\n= 1", "const c\n= 1", "const c = { }",
		"const c = 1 const d = 2", "const \"c\" = 1", "const c = d = 1", "const c = d := 1", "const c = d++", "const c ~T = 1",
		"const c = if a { }", "const c = func() { d e }", "const c;= 1")
}

// pieces is texts, each of which may stand behind some beginning of a declaration or behind none.
func pieces() []string {
	return strings.Split("a|a.b|a.b.c|[]a|[a]b|[2]c|*a|**a|(a)|(*a)|map[a]b|map[a][]b|func()|func(a)|func(a b) c|func(a, b c)|struct{}|"+
		"struct { a; *b }|interface{}|interface { a() b; ~c }|a[b]|a.b[c, d]|a[b]{c}|a{}|a{b: c}|[]a{b, c}|a(b)|a(b...)|a(b, c...,)|a.(b)|"+
		"a[1]|a[b + 1]|1|1.5|\"a\"|`a`|-a|!a|^a|&a|+a|a + b|a *b|a == b|a && b|a &^ b|func() { a }|func() { a }()|func(a b) c { return d }|"+
		"a b|a 1|1 a|a, b|a; b|a := b|a = b|a++||()|{}|{ a }|[]|[a]|[a|a]|(a|a)|{|}|a.|.a|a..b|a...|~a|a ~b|if|return a|func|func f() {}|"+
		"var a b|a.\nb|a +\nb|struct|struct a|map|map[a]|interface|type|a.(type)|x[|]x|*|&|[2]|[]a{|(a}|func() {|a{b: c: d}|a{b c}|<-a|"+
		"chan a|a << b|a?b|a:b|a #", "|")
}

// What may stand as a variable or a constant of a block may stand so in a file, and nothing else.
func TestAsStatementsHaveThem(t *testing.T) {
	for _, text := range pieces() {
		for _, ahead := range []string{"var x ", "var x = ", "var x T = ", "const c = ", "const c T = ", "const c ", "var ", "const "} {
			block, ok := parsestmt.Block([]byte("{" + ahead + text + "\n}"))
			if ok && len(block.Kids) == 1 {
				expectFile(t, "package p; "+ahead+text, "file:p("+told(block.Kids[0])+")")
			} else {
				expectNone(t, "package p; "+ahead+text)
			}
		}
	}
}

// The same of types.
func TestAsTypesAre(t *testing.T) {
	for _, text := range append(pieces(), "[2*a]b", "[(a)]b", "[a][b*c]d") {
		typ, ok := parseexpr.Type([]byte(text))
		for form, tree := range map[string]string{"type T $": "type:T(list %)", "type T[P any] $": "type:T(list(param:P(any)) %)",
			"type T ($)": "type:T(list paren(%))", "type T []$": "type:T(list slice(%))",
			"func f(a $) { }": "func:f(- list sig(list(param:a(%)) -) block)"} {
			source := "package p; " + strings.ReplaceAll(form, "$", text)
			if ok {
				expectFile(t, source, "file:p("+strings.ReplaceAll(tree, "%", told(typ))+")")
			} else {
				expectNone(t, source)
			}
		}
	}
}

func TestTypes(t *testing.T) {
	for source, want := range map[string]string{
		"type T U": "type:T(list U)", "type T p.U": "type:T(list dot:U(p))", "type T *U": "type:T(list star(U))",
		"type T (U)": "type:T(list paren(U))", "type T T": "type:T(list T)",
		"type T struct {}":                   "type:T(list struct)",
		"type T struct {\na U\n*V\n\tp.W\n}": "type:T(list struct(field:a(U) field(star(V)) field(dot:W(p))))",
		"type _ U":                           "type:_(list U)",
		"type T interface { m() }":           "type:T(list interface(method:m(sig(list -))))",
		"type T interface { U | ~V; W }":     "type:T(list interface(union(U tilde(V)) union(W)))",
		"type T func(U) V":                   "type:T(list sig(list(param(U)) V))", "type T func()": "type:T(list sig(list -))",
		"type T map[U]V": "type:T(list map(U V))", "type T U[V]": "type:T(list index(U V))",
		"type T p.U[V, W]": "type:T(list index(dot:U(p) V W))", "type T U[[]V]": "type:T(list index(U slice(V)))",
		"type\nT U": "type:T(list U)", "type T func(a U, b V)": "type:T(list sig(list(param:a(U) param:b(V)) -))",
		// Arrays and slices.
		"type T []U": "type:T(list slice(U))", "type T[]U": "type:T(list slice(U))", "type T [2]U": "type:T(list array(int:2 U))",
		"type T[2]U":  "type:T(list array(int:2 U))",
		"type T [n]U": "type:T(list array(n U))", "type T[n]U": "type:T(list array(n U))", "type T [n] U": "type:T(list array(n U))",
		"type T [n]*U":  "type:T(list array(n star(U)))",
		"type T [n](U)": "type:T(list array(n paren(U)))", "type T [n][m]U": "type:T(list array(n array(m U)))",
		"type T [n][m*2]U": "type:T(list array(n array(*(m int:2) U)))",
		"type T [n]U[V]":   "type:T(list array(n index(U V)))", "type T [_]U": "type:T(list array(_ U))",
		"type T [n]struct{}": "type:T(list array(n struct))", "type T [n][]U": "type:T(list array(n slice(U)))",
		"type T [2*n]U": "type:T(list array(*(int:2 n) U))", "type T [(n)]U": "type:T(list array(paren(n) U))",
		"type T [(n*2)]U": "type:T(list array(paren(*(n int:2)) U))", "type T [+n]U": "type:T(list array(+(n) U))",
		"type T [-n*2]U": "type:T(list array(*(-(n) int:2) U))", "type T [*n]U": "type:T(list array(star(n) U))",
		"type T [\"s\"]U": "type:T(list array(string:\"s\" U))", "type T [1.5]U": "type:T(list array(float:1.5 U))",
		"type T [[]U{}[0]]V":     "type:T(list array(index(lit(slice(U)) int:0) V))",
		"type T [func() { a }]U": "type:T(list array(funclit(sig(list -) block(do(a))) U))",
		"type T [[2]U]V":         "type:T(list array(array(int:2 U) V))",
		"type T ([n*2]U)":        "type:T(list paren(array(*(n int:2) U)))", "type T *[n*2]U": "type:T(list star(array(*(n int:2) U)))",
		"type T [][n*2]U":  "type:T(list slice(array(*(n int:2) U)))",
		"type T [2][n*2]U": "type:T(list array(int:2 array(*(n int:2) U)))", "type T [struct{}]U": "type:T(list array(struct U))",
	} {
		expectDecl(t, source, want)
	}
}

func TestTypesWrong(t *testing.T) {
	expectNoDecl(t, "type", "type T", "type U = V", "type T = []U", "type T;", "type (T U)", "type ()", "type (\nT U\n)", "type T U V",
		"type T, U V", "type T U, V", "type 1 U", "type \"T\" U", "type T 1",
		"type T \"s\"", "type p.T U", "type *T U", "type T U = 1", "type T ~U", "type T U | V", "type T -U", "type T &U", "type T U + V",
		"type T U{}", "type T f()", "type T U.V.W", "type T U[]", "type T U[1]",
		"type T { }", "type T { a U }", "type T struct", "type T struct { a }; }", "type T struct { a U b V }", "type T struct { a, b U }",
		"type T interface", "type T interface { m }; }", "type T func",
		"type T func() { }", "type T func(a U, V)", "type T map[U]", "type T map U", "type T chan U", "type T ...U", "type T (U",
		"type T U)", "type T ()", "type T *", "type T\nU", "type T U type V W",
		"type T interface { m() { } }", "type T struct { a U = 1 }", "type T [U", "type T ]U", "type T [", "type T []", "type T [2]",
		"type T [n]", "type T [n] ", "type T [2]3", "type T [n]2", "type T [...]U",
		"type T [2,]U", "type T [2, 3]U", "type T [n][m]", "type T [(n]U", "type T [n)]U", "type T [2 n]U", "type T []U{}",
		"type T [n]U{1}", "type T [2]U | V", "type T [n]~U", "type T [1; 2]U", "type T [,]U",
		"type T [var]U", "type T [:]U", "type T [1:2]U")
}

// Behind a `[` and a name, and no `]` right behind it, type parameters stand, whatever else it might be.
func TestTypeParametersOrLengths(t *testing.T) {
	for source, want := range map[string]string{
		"type T[P C] U": "type:T(list(param:P(C)) U)", "type T [P C] U": "type:T(list(param:P(C)) U)",
		"type T[P C]U": "type:T(list(param:P(C)) U)", "type T[P C] [P]U": "type:T(list(param:P(C)) array(P U))",
		"type T[P *C] U": "type:T(list(param:P(star(C))) U)", "type T[P * C] U": "type:T(list(param:P(star(C))) U)",
		"type T[n*m] U": "type:T(list(param:n(star(m))) U)", "type T[P *C,] U": "type:T(list(param:P(star(C))) U)",
		"type T[P (C)] U": "type:T(list(param:P(paren(C))) U)", "type T[f(x)] U": "type:T(list(param:f(paren(x))) U)",
		"type T[P (C),] U": "type:T(list(param:P(paren(C))) U)", "type T[P *(C)] U": "type:T(list(param:P(star(paren(C)))) U)",
		"type T[P []C] U": "type:T(list(param:P(slice(C))) U)", "type T[P [n]C] U": "type:T(list(param:P(array(n C))) U)",
		"type T[P [n*2]C] U":      "type:T(list(param:P(array(*(n int:2) C))) U)",
		"type T[P *C | D] U":      "type:T(list(param:P(interface(union(star(C) D)))) U)",
		"type T[P *C|*D, Q *E] U": "type:T(list(param:P(interface(union(star(C) star(D)))) param:Q(star(E))) U)",
		"type T[P C] [P * 2]U":    "type:T(list(param:P(C)) array(*(P int:2) U))", "type T[P C] []P": "type:T(list(param:P(C)) slice(P))",
		"type T[P C] [Q R]U": "", "type T[P C] [Q]U": "type:T(list(param:P(C)) array(Q U))",
		"type T[n*2] U": "", "type T[n+1] U": "", "type T[n-1] U": "", "type T[n.m] U": "", "type T[f()] U": "", "type T[f(1)] U": "",
		"type T[n{}] U": "", "type T[n/2] U": "", "type T[n|m] U": "", "type T[n&1] U": "",
		"type T[n == m] U": "", "type T[n,] U": "", "type T[n, m] U": "", "type T[n[0]] U": "", "type T[n *m + 1] U": "",
		"type T[n *m * 2] U": "", "type T[n[m]] U": "", "type T[n 1] U": "", "type T[n \"s\"] U": "",
		"type T[n *m()] U": "", "type T[n (m) + 1] U": "", "type T[n.(m)] U": "", "type T[n:m] U": "", "type T[n++] U": "",
		"type T[n...] U": "", "type T[n !m] U": "", "type T[n\n]U": "", "type T[n;]U": "",
		"type T[n": "", "type T[n ": "", "type T[n C": "", "type T[n C]": "", "type T[n C] ": "", "type T[n C],": "", "type T[n C] = U": "",
		"type T[n C\n] U": "", "type T[n C,\n] U": "type:T(list(param:n(C)) U)",
		"type T[\nP C,\nQ D,\n] U": "type:T(list(param:P(C) param:Q(D)) U)", "type T[\nn]U": "type:T(list array(n U))",
		"type T\n[P C] U": "", "type T[P C]\nU": "", "type T[P C][Q D] U": "",
	} {
		if want == "" {
			expectNoDecl(t, source)
			continue
		}
		expectDecl(t, source, want)
	}
}

// constraints is texts of constraints and their trees.
func constraints() map[string]string {
	return map[string]string{
		"any": "any", "p.C": "dot:C(p)", "C[P]": "index(C P)", "p.C[P, Q,]": "index(dot:C(p) P Q)", "interface{}": "interface",
		"interface { m() }":  "interface(method:m(sig(list -)))",
		"interface { ~int }": "interface(union(tilde(int)))", "interface { int }": "interface(union(int))",
		"interface { A | B; m() }": "interface(union(A B) method:m(sig(list -)))",
		"[]E":                      "slice(E)", "[2]E": "array(int:2 E)", "[n]E": "array(n E)", "map[K]V": "map(K V)", "func(a A) B": "sig(list(param:a(A)) B)",
		"func(A)": "sig(list(param(A)) -)", "struct { a A }": "struct(field:a(A))",
		"*E": "star(E)", "**E": "star(star(E))", "(C)": "paren(C)", "(*E)": "paren(star(E))",
		"~int": "interface(union(tilde(int)))", "~ int": "interface(union(tilde(int)))", "~[]E": "interface(union(tilde(slice(E))))",
		"~p.C": "interface(union(tilde(dot:C(p))))", "~*E": "interface(union(tilde(star(E))))",
		"~(int)": "interface(union(tilde(paren(int))))", "~map[K]V": "interface(union(tilde(map(K V))))",
		"~func()": "interface(union(tilde(sig(list -))))", "~struct{}": "interface(union(tilde(struct)))",
		"~interface{}": "interface(union(tilde(interface)))", "A | B": "interface(union(A B))", "A|B|C": "interface(union(A B C))",
		"~A | B": "interface(union(tilde(A) B))", "A | ~B": "interface(union(A tilde(B)))",
		"~A | ~B | ~C": "interface(union(tilde(A) tilde(B) tilde(C)))", "[]A | map[K]V | *B": "interface(union(slice(A) map(K V) star(B)))",
		"A |\nB |\n~C": "interface(union(A B tilde(C)))", "A | A": "interface(union(A A))",
		"interface{} | A": "interface(union(interface A))", "interface { ~A } | B": "interface(union(interface(union(tilde(A))) B))",
		"func() A | B": "interface(union(sig(list A) B))", "G[A | B]": "",
		"(A | B)": "", "(~A)": "", "~~A": "", "~": "", "~ | A": "", "| A": "", "A |": "", "A | | B": "", "A || B": "", "A & B": "",
		"A + B": "", "A; B": "", "A B": "", "*~A": "", "[]~A": "", "[](A | B)": "", "~A ~B": "",
		"1": "", "\"s\"": "", "=": "", "A = B": "", "~A = B": "", "A()": "", "A{}": "", "m()": "", "!A": "", "^A": "", "-A": "",
		"func() { }": "", "...A": "", "A...": "", "A.B.C": "", "~1": "", "A | 1": "", "[]": "",
		"A | B,,": "", "A,,": "", "A\n": "", "A | B\n": "", "chan A": "", "type": "", "var": "", "struct": "", "interface": "", "A / B": "",
		"A[1]": "", "A | B[1]": "", "(A": "", "A)": "", "A[": "", "A[]": "",
	}
}

func TestConstraints(t *testing.T) {
	for constraint, want := range constraints() {
		forms := map[string]string{
			"type T[P $] U": "type:T(list(param:P(%)) U)", "type T[P $,] U": "type:T(list(param:P(%)) U)",
			"type T[P any, Q $] U":             "type:T(list(param:P(any) param:Q(%)) U)",
			"type T[P $, Q ~B | C, ] U":        "type:T(list(param:P(%) param:Q(interface(union(tilde(B) C)))) U)",
			"func f[P $]() { }":                "func:f(- list(param:P(%)) sig(list -) block)",
			"func f[P $,]() { }":               "func:f(- list(param:P(%)) sig(list -) block)",
			"func f[P any, Q $, R D](a P) { }": "func:f(- list(param:P(any) param:Q(%) param:R(D)) sig(list(param:a(P)) -) block)",
		}
		for form, tree := range forms {
			source := "package p; " + strings.ReplaceAll(form, "$", constraint)
			if want == "" {
				expectNone(t, source)
			} else {
				expectFile(t, source, "file:p("+strings.ReplaceAll(tree, "%", want)+")")
			}
		}
	}
}

// One, two and many type parameters, with a comma behind the last one or not, of types and of functions.
func TestTypeParameters(t *testing.T) {
	for list, want := range map[string]string{
		"[P C]": "list(param:P(C))", "[P C,]": "list(param:P(C))", "[P C, Q D]": "list(param:P(C) param:Q(D))",
		"[P C, Q D,]": "list(param:P(C) param:Q(D))", "[P C , P C , ]": "list(param:P(C) param:P(C))",
		"[_ C, _ C]": "list(param:_(C) param:_(C))", "[P C, Q D, R E, S F]": "list(param:P(C) param:Q(D) param:R(E) param:S(F))",
		"[P Q, Q P]": "list(param:P(Q) param:Q(P))", "[P C[P]]": "list(param:P(index(C P)))",
		"[int any]": "list(param:int(any))",
		"[,]":       "", "[P]": "", "[P,]": "", "[P, Q]": "", "[P, Q C]": "", "[P, Q C,]": "", "[P C, Q]": "", "[P C, Q,]": "",
		"[P, Q C, R D]": "", "[P C,,]": "", "[,P C]": "", "[P C,,Q D]": "", "[P C; Q D]": "",
		"[P C Q D]": "", "[C]": "", "[~C]": "", "[P ~C, ~D]": "", "[P C": "", "P C]": "", "(P C)": "", "{P C}": "", "[P C)": "",
		"(P C]": "", "[P C]]": "", "[[P C]": "", "[p.P C]": "", "[*P C]": "", "[1 C]": "",
		"[\"P\" C]": "", "[P.Q C]": "", "[P:C]": "", "[P = C]": "", "[P C...]": "", "[P ...C]": "", "[(P C)]": "", "[P C][Q D]": "",
		"[P C] [Q D]": "", "[P C],": "", "[P C,\n\n": "", "[P C\n]": "", "[P C,\n]": "list(param:P(C))",
		"[\nP C]": "list(param:P(C))", "[P\nC]": "", "[P C,\nQ D]": "list(param:P(C) param:Q(D))", "[P C\n, Q D]": "",
		"[P C,\nQ D,\n]": "list(param:P(C) param:Q(D))", "[]": "", "[ ]": "", "[\n]": "",
	} {
		function := "package p; func f" + list + "(a P) { }"
		if want == "" {
			expectNone(t, function)
		} else {
			expectFile(t, function, "file:p(func:f(- "+want+" sig(list(param:a(P)) -) block))")
		}
		typ := "package p; type T" + list + " struct { a P }"
		switch {
		case list == "[]" || list == "[ ]" || list == "[\n]":
			expectFile(t, typ, "file:p(type:T(list slice(struct(field:a(P)))))")
		case list == "[P]" || list == "[C]":
			expectFile(t, typ, "file:p(type:T(list array("+list[1:2]+" struct(field:a(P)))))")
		case want == "":
			expectNone(t, typ)
		default:
			expectFile(t, typ, "file:p(type:T("+want+" struct(field:a(P))))")
		}
	}
}

func TestReceivers(t *testing.T) {
	for receiver, want := range map[string]string{
		"(r T)": "param:r(T)", "(r *T)": "param:r(star(T))", "( r * T )": "param:r(star(T))", "(_ T)": "param:_(T)",
		"(r T[A])": "param:r(index(T A))", "(r *T[A])": "param:r(star(index(T A)))",
		"(r T[A, B])": "param:r(index(T A B))", "(r *T[A, B, C])": "param:r(star(index(T A B C)))", "(r T[A,])": "param:r(index(T A))",
		"(r *T[A, _,])": "param:r(star(index(T A _)))", "(r T[_])": "param:r(index(T _))",
		"(T T)": "param:T(T)", "(r T[T])": "param:r(index(T T))", "(\nr T)": "param:r(T)",
		"(r *\nT[\nA,\nB,\n])": "param:r(star(index(T A B)))", "(r T /* c */)": "param:r(T)", "(r int)": "param:r(int)",
		"(T)": "", "(*T)": "", "()": "", "(r)": "", "(T[A])": "", "(*T[A])": "", "(p.T)": "", "(*p.T)": "", "(r p.T)": "", "(r *p.T)": "",
		"(r p.T[A])": "", "(r *p.T[A])": "", "(r **T)": "", "(r * * T)": "", "(r (T))": "",
		"(r (*T))": "", "(r *(T))": "", "((r T))": "", "(r []T)": "", "(r [2]T)": "", "(r map[K]V)": "", "(r func())": "",
		"(r struct{})": "", "(r interface{})": "", "(r T[])": "", "(r T[A B])": "", "(r T[A any])": "",
		"(r T[*A])": "", "(r T[[]A])": "", "(r T[p.A])": "", "(r T[(A)])": "", "(r T[1])": "", "(r T[A[B]])": "", "(r T[A, 1])": "",
		"(r T[,])": "", "(r T[A,,])": "", "(r T[A; B])": "", "(r T[A][B])": "", "(r T,)": "",
		"(r T;)": "", "(r, s T)": "", "(r T, s T)": "", "(r T s T)": "", "(r T) (s T)": "", "(r T": "", "r T)": "", "r T": "", "[r T]": "",
		"{r T}": "", "(r T]": "", "(r T[A)": "", "(r T A])": "", "(r ~T)": "", "(r T | U)": "",
		"(r &T)": "", "(r ...T)": "", "(r = T)": "", "(r: T)": "", "(1 T)": "", "(\"r\" T)": "", "(r 1)": "", "(r.s T)": "", "(*r T)": "",
		"(r T.U)": "", "(r T{})": "", "(r T())": "", "(r T\n)": "", "(r\nT)": "", "(r T[A\n])": "",
		"(r *)": "", "(r * [A])": "", "(r [A])": "", "(,r T)": "", "(r T) ": "param:r(T)",
	} {
		source := "func " + receiver + "m() { }"
		if want == "" {
			expectNoDecl(t, source)
			continue
		}
		expectDecl(t, source, "func:m("+want+" list sig(list -) block)")
		expectDecl(t, "func "+receiver+" m(a A, _ []B) C { return a }",
			"func:m("+want+" list sig(list(param:a(A) param:_(slice(B))) C) block(return(a)))")
		expectNoDecl(t, "func "+receiver, "func "+receiver+"() { }", "func "+receiver+" m", "func "+receiver+" m()",
			"func "+receiver+" m { }", "func "+receiver+" m(A) { }", "func "+receiver+" m.n() { }",
			"func "+receiver+" 1() { }", "func "+receiver+" { }", "func m"+receiver, "func "+receiver+" "+receiver+" m() { }",
			"func "+receiver+" *m() { }")
		// A method has no type parameters of its own.
		for _, list := range []string{"[P C]", "[P C,]", "[P ~C]", "[P C, Q D]", "[]", "[P]", "[2]", "[P A]"} {
			expectNoDecl(t, "func "+receiver+" m"+list+"() { }", "func "+receiver+" m"+list+"(a P) P { }",
				"func "+receiver+" "+list+" m() { }", "func "+list+" "+receiver+" m() { }")
		}
	}
}

func TestFunctions(t *testing.T) {
	for source, want := range map[string]string{
		"func f() { }": "func:f(- list sig(list -) block)", "func f(){}": "func:f(- list sig(list -) block)",
		"func _() { }": "func:_(- list sig(list -) block)", "func\nf() {}": "func:f(- list sig(list -) block)",
		"func f(a T) { }":            "func:f(- list sig(list(param:a(T)) -) block)",
		"func f(a T,) { }":           "func:f(- list sig(list(param:a(T)) -) block)",
		"func f(a T, b U) { }":       "func:f(- list sig(list(param:a(T) param:b(U)) -) block)",
		"func f(\na T,\nb U,\n) { }": "func:f(- list sig(list(param:a(T) param:b(U)) -) block)",
		"func f(_ T, _ U) { }":       "func:f(- list sig(list(param:_(T) param:_(U)) -) block)",
		"func f(T T) { }":            "func:f(- list sig(list(param:T(T)) -) block)",
		"func f() T { }":             "func:f(- list sig(list T) block)", "func f() (T) { }": "func:f(- list sig(list paren(T)) block)",
		"func f() []T { }": "func:f(- list sig(list slice(T)) block)", "func f() *p.T { }": "func:f(- list sig(list star(dot:T(p))) block)",
		"func f() struct{} { }":             "func:f(- list sig(list struct) block)",
		"func f() interface{} { }":          "func:f(- list sig(list interface) block)",
		"func f() func() { }":               "func:f(- list sig(list sig(list -)) block)",
		"func f() func(T) U { }":            "func:f(- list sig(list sig(list(param(T)) U)) block)",
		"func f() G[T] { }":                 "func:f(- list sig(list index(G T)) block)",
		"func f() [2]T { }":                 "func:f(- list sig(list array(int:2 T)) block)",
		"func f(a []T) { }":                 "func:f(- list sig(list(param:a(slice(T))) -) block)",
		"func f(a [n]T) { }":                "func:f(- list sig(list(param:a(array(n T))) -) block)",
		"func f(a G[T]) { }":                "func:f(- list sig(list(param:a(index(G T))) -) block)",
		"func f(a func(T) U) { }":           "func:f(- list sig(list(param:a(sig(list(param(T)) U))) -) block)",
		"func f(a func(b T)) { }":           "func:f(- list sig(list(param:a(sig(list(param:b(T)) -))) -) block)",
		"func f(a *T) { }":                  "func:f(- list sig(list(param:a(star(T))) -) block)",
		"func f(a interface { m(T) }) { }":  "func:f(- list sig(list(param:a(interface(method:m(sig(list(param(T)) -))))) -) block)",
		"func f(a (T)) { }":                 "func:f(- list sig(list(param:a(paren(T))) -) block)",
		"func f[P C]() { }":                 "func:f(- list(param:P(C)) sig(list -) block)",
		"func f[P C](a P) P { }":            "func:f(- list(param:P(C)) sig(list(param:a(P)) P) block)",
		"func f [P C] (a P) { }":            "func:f(- list(param:P(C)) sig(list(param:a(P)) -) block)",
		"func f[P *C](a P) { }":             "func:f(- list(param:P(star(C))) sig(list(param:a(P)) -) block)",
		"func f() { return }":               "func:f(- list sig(list -) block(return(-)))",
		"func f() {\n\ta()\n\tb := c\n}":    "func:f(- list sig(list -) block(do(call(a)) define:b(c)))",
		"func f() { func() { g() }() }":     "func:f(- list sig(list -) block(do(call(funclit(sig(list -) block(do(call(g))))))))",
		"func f() { type T [n*2]U }":        "func:f(- list sig(list -) block(type:T(list array(*(n int:2) U))))",
		"func f() { if a { } else { } }":    "func:f(- list sig(list -) block(if(- a block block)))",
		"func f() { L: for { break L } }":   "func:f(- list sig(list -) block(label:L(for(- - - block(break:L)))))",
		"func f() {;;}":                     "func:f(- list sig(list -) block)",
		"func f() { var x T; const c = 1 }": "func:f(- list sig(list -) block(var:x(T -) const:c(- int:1)))",
		"func main() { }":                   "func:main(- list sig(list -) block)", "func init() { }": "func:init(- list sig(list -) block)",
	} {
		expectDecl(t, source, want)
	}
}

func TestFunctionsWrong(t *testing.T) {
	// Parameters without names, and names without types.
	expectNoDecl(t, "func f(T) { }", "func f(T, U) { }", "func f([]T) { }", "func f(*T) { }", "func f(p.T) { }", "func f(G[T]) { }",
		"func f(func()) { }", "func f(struct{}) { }", "func f(interface{}) { }", "func f(map[K]V) { }",
		"func f((T)) { }", "func f(T,) { }", "func f(a, b T) { }", "func f(a T, b) { }", "func f(a T, []U) { }", "func f(a T, *U) { }",
		"func f[P C](P) { }", "func f(_) { }", "func f(a, b) { }", "func f(func(a T)) { }", "func f(a [n]) { }",
		"func (r T) m(T) { }", "func (r T) m(a, b T) { }", "func f(a ...T) { }", "func f(...T) { }", "func f(a T...) { }",
		"func f(a ~T) { }", "func f(a T | U) { }", "func f(a 1) { }", "func f(1 T) { }", "func f(a T; b U) { }", "func f(,) { }",
		"func f(a T,,) { }", "func f(,a T) { }", "func f(a T b U) { }", "func f(a T = 1) { }", "func f(a: T) { }", "func f(a T\n) { }")
	// No name, no brackets, more than one result, no block or more than one.
	expectNoDecl(t, "func", "func f", "func f(", "func f()", "func f() T", "func f(a T)", "func f[P C]()", "func f[P C]", "func f { }",
		"func f[P C] { }", "func () { }", "func() { }", "func (a T) { }", "func 1() { }", "func \"f\"() { }",
		"func f.g() { }", "func *f() { }", "func f,g() { }", "func f() () { }", "func f() (T, U) { }", "func f() T, U { }",
		"func f() (a T) { }", "func f() T U { }", "func f() ~T { }", "func f() T | U { }", "func f() 1 { }", "func f() { } { }",
		"func f() T { } { }", "func f() func() { } { }", "func f()() { }", "func f() = { }", "func f() => 1", "func f() return 1",
		"func f();", "func f(); { }", "func f()\n{ }", "func f() T\n{ }", "func f(a T)\n\n{\n}", "func f() (\nT\n) { }",
		"func f() {", "func f() }", "func f() { {", "func f() ( )", "func f() [ ]", "func f() { }()", "func f() { } = 1", "func f() { }.g",
		"func f() { } func g() { }", "func f() { } var x T", "func f func g() { }", "func f(a T { }", "func f a T) { }",
		"func f[P C(a P) { }", "func f(a T)) { }", "func f[a T]", "func (f)() { }", "func f{ }", "func f() else { }", "func f() if a { }",
		"func [P C] f() { }", "func f() [P C] { }", "func f()[P C]() { }")
	// Blocks that are none.
	expectNoDecl(t, "func f() { var }", "func f() { x y }", "func f() { import \"a\" }", "func f() { package p }",
		"func f() { func g() { } }", "func f() { type T[P C] U }", "func f() { case a: }", "func f() { else { } }", "func f() { } }",
		"func f() { x := }", "func f() { return 1, 2 }", "func f() { a, b := c }", "func f() { if { } }", "func f() { for a := range { } }",
		"func f() { func() { x y } }", "func f() { ( }", "func f() { ] }", "func f() { L: x }")
}

// Function literals have blocks wherever an expression stands in a file.
func TestFunctionLiterals(t *testing.T) {
	const literal, tree = "func(a T) U { b := func() { return c }; { }; return b }",
		"funclit(sig(list(param:a(T)) U) block(define:b(funclit(sig(list -) block(return(c)))) block return(b)))"
	for form, want := range map[string]string{
		"var x = $": "var:x(- %)", "var x T = $(1)": "var:x(T call(% int:1))", "const c = $": "const:c(- %)",
		"var x = f($, []T{$})": "var:x(- call(f % lit(slice(T) %)))", "var x [$]T": "var:x(array(% T) -)",
		"var x [$]T = $": "var:x(array(% T) %)", "type T [$]U": "type:T(list array(% U))",
		"type T[P [$]C] U":                         "type:T(list(param:P(array(% C))) U)",
		"type T[P ~[$]C | [$]D] struct { a [$]E }": "type:T(list(param:P(interface(union(tilde(array(% C)) array(% D))))) struct(field:a(array(% E))))",
		"func f(a [$]T) [$]U { }":                  "func:f(- list sig(list(param:a(array(% T))) array(% U)) block)",
		"func f[P [$]C]() { $ }":                   "func:f(- list(param:P(array(% C))) sig(list -) block(do(%)))",
		"func f() { defer $(); x = $ }":            "func:f(- list sig(list -) block(defer(call(%)) =(x %)))",
		"func (r T) m(a [$]T) { return $ }":        "func:m(param:r(T) list sig(list(param:a(array(% T))) -) block(return(%)))",
	} {
		expectDecl(t, strings.ReplaceAll(form, "$", literal), strings.ReplaceAll(want, "%", tree))
		expectNoDecl(t, strings.ReplaceAll(form, "$", "func(a T) U { b := func() { return c d } }"),
			strings.ReplaceAll(form, "$", "func(a T) U { b c }"), strings.ReplaceAll(form, "$", "func { }"))
	}
}

// A file as it may be written.
const listFile = `// Package list holds lists.
package list

import "a/b"
import "c"

const Most int = 1e3

var empty = List[int, string]{}

type Number interface {
	~int | ~float64
	Text() string
}

type List[E Number, F ~int | string] struct {
	b.Item
	items []E // of the list
	next *List[E, F]
}

func (l *List[E, _]) Each(visit func(E) bool) {
	for _, e := range l.items {
		if !visit(e) {
			return
		}
	}
}

func Sum[E Number](items []E) E {
	var s E
	return s
}
`

func TestWholeFile(t *testing.T) {
	expectFile(t, listFile, "file:list("+strings.Join([]string{
		"import:\"a/b\" import:\"c\" const:Most(int float:1e3) var:empty(- lit(index(List int string)))",
		"type:Number(list interface(union(tilde(int) tilde(float64)) method:Text(sig(list string))))",
		"type:List(list(param:E(Number) param:F(interface(union(tilde(int) string))))",
		"struct(field(dot:Item(b)) field:items(slice(E)) field:next(star(index(List E F)))))",
		"func:Each(param:l(star(index(List E _))) list sig(list(param:visit(sig(list(param(E)) bool))) -)",
		"block(range(_ e dot:items(l) block(if(- !(call(visit e)) block(return(-)) -)))))",
		"func:Sum(- list(param:E(Number)) sig(list(param:items(slice(E))) E) block(var:s(E -) return(s)))",
	}, " ")+")")
}
