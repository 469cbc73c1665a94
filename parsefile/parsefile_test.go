package parsefile_test

import (
	"reflect"
	"strings"
	"testing"

	"sterling/api"
	"sterling/parsefile"
	"sterling/scan"
	"sterling/syntax"
)

// kindName is the word by which told names a kind; names, operators and clauses are told by their text alone.
func kindName(kind int) string {
	names := map[int]string{
		api.NDot: "dot", api.NIndex: "index", api.NCall: "call", api.NParen: "paren", api.NInt: "int", api.NFloat: "float",
		api.NString: "string", api.NLit: "lit", api.NKey: "key", api.NFuncLit: "funclit", api.NAssert: "assert", api.NArray: "array",
		api.NSlice: "slice", api.NStar: "star", api.NMap: "map", api.NFuncType: "sig", api.NStruct: "struct", api.NField: "field",
		api.NInterface: "interface", api.NMethod: "method", api.NUnion: "union", api.NTilde: "tilde", api.NList: "list",
		api.NParam: "param", api.NName: "", api.NUnary: "", api.NBinary: "", api.NBlock: "block", api.NVar: "var", api.NConst: "const",
		api.NType: "type", api.NDefine: "define", api.NAssign: "", api.NIncDec: "", api.NExprStmt: "do", api.NDefer: "defer",
		api.NIf: "if", api.NFor: "for", api.NRange: "range", api.NSwitch: "switch", api.NCase: "", api.NTypeSwitch: "typeswitch",
		api.NReturn: "return", api.NBreak: "break", api.NContinue: "continue", api.NLabel: "label", api.NFunc: "func",
		api.NFile: "file", api.NImport: "import",
	}
	if name, ok := names[kind]; ok {
		return name
	}
	return "?"
}

// told writes a tree: a kind, a colon and the text, the kids in brackets; `-` is an absent one.
func told(n api.Node) string {
	if n.Kind == api.NNone {
		return "-"
	}
	s := kindName(n.Kind)
	if n.Text != "" && s != "" {
		s += ":"
	}
	s += n.Text
	if len(n.Kids) == 0 {
		return s
	}
	var kids []string
	for _, kid := range n.Kids {
		kids = append(kids, told(kid))
	}
	return s + "(" + strings.Join(kids, " ") + ")"
}

// expectFile asks for the tree of a file as told, in place, and for the same of its text.
func expectFile(t *testing.T, source, want string) {
	t.Helper()
	n, at, ok := parsefile.File([]byte(source))
	if !ok || told(n) != want {
		t.Errorf("P9.1: %q is read as %s, %d, %t, not as %s", source, told(n), at, ok, want)
		return
	}
	if at != 0 {
		t.Errorf("P9.1: beside the tree of %q stands a place, %d", source, at)
	}
	expectShape(t, source, n)
	expectBack(t, n)
}

// expectBack asks that the text of a tree that was read is read as the same tree.
func expectBack(t *testing.T, n api.Node) {
	t.Helper()
	text := syntax.Print(n)
	if again, _, ok := parsefile.File([]byte(text)); !ok || !syntax.Eq(n, again) {
		t.Errorf("P6.2: Print(%s) is %q, which is read as %s, %t", told(n), text, told(again), ok)
	}
}

// expectNone asks for a zero node, a place and false.
func expectNone(t *testing.T, sources ...string) {
	t.Helper()
	for _, source := range sources {
		n, at, ok := parsefile.File([]byte(source))
		if ok || !reflect.DeepEqual(n, api.Node{}) {
			t.Errorf("P9.1, P0.2: %.300q is read as %.300s, %t", source, told(n), ok)
			continue
		}
		expectFaultPlace(t, source, at)
	}
}

// expectFaultPlace asks that a place is the scanner's, if the source cannot be scanned, and that of a token otherwise.
func expectFaultPlace(t *testing.T, source string, at int) {
	t.Helper()
	tokens, wrong, ok := scan.Scan([]byte(source))
	if at < 0 || at > len(source) || !ok && at != wrong {
		t.Errorf("P9.1: the place of %.300q is %d; the scanner's is %d, %t", source, at, wrong, ok)
	}
	for _, token := range tokens {
		if token.At == at {
			return
		}
	}
	if ok {
		t.Errorf("P9.1: at %d of %.300q no token begins", at, source)
	}
}

// around is the places where a declaration may stand, and the trees there.
func around() map[string]string {
	return map[string]string{
		"package p; $":                                  "file:p(%)",
		"package p\n$\n":                                "file:p(%)",
		"package p;$;":                                  "file:p(%)",
		"// c\npackage p\n\n// d\n$ // e\n":             "file:p(%)",
		"package p; import \"a\"; $":                    "file:p(import:\"a\" %)",
		"package p\nimport \"a\"\nimport \"b\"\n$\n":    "file:p(import:\"a\" import:\"b\" %)",
		"package p; var x T; $":                         "file:p(var:x(T -) %)",
		"package p\ntype T []T\n$\nvar y = 1\n":         "file:p(type:T(list slice(T)) % var:y(- int:1))",
		"package p\nfunc f() {}\n\n$\n\nfunc g() {}\n":  "file:p(func:f(- list sig(list -) block) % func:g(- list sig(list -) block))",
		"package p; const c = 1; $ ; const d = 2;":      "file:p(const:c(- int:1) % const:d(- int:2))",
		"package p; func (r T) m() { }; $":              "file:p(func:m(param:r(T) list sig(list -) block) %)",
		"package p; type G[P any] P; $; type H[P C] G;": "file:p(type:G(list(param:P(any)) P) % type:H(list(param:P(C)) G))",
	}
}

// expectDecl asks for the tree of a declaration, wherever one may stand.
func expectDecl(t *testing.T, source, want string) {
	t.Helper()
	for form, tree := range around() {
		expectFile(t, strings.ReplaceAll(form, "$", source), strings.ReplaceAll(tree, "%", want))
	}
}

// expectNoDecl asks that sources are no declarations, wherever one may stand. (Ahead of the end of a line what is wrong
// might go on behind it.)
func expectNoDecl(t *testing.T, sources ...string) {
	t.Helper()
	for _, source := range sources {
		for form := range around() {
			if !strings.Contains(form, "$\n") {
				expectNone(t, strings.ReplaceAll(form, "$", source))
			}
		}
	}
}

func TestPackageClause(t *testing.T) {
	for source, want := range map[string]string{
		"package p": "file:p", "package p;": "file:p", "package p\n": "file:p", " package\tp ": "file:p", "package\np": "file:p",
		"\n\npackage\n\np\n\n": "file:p", "package _": "file:_", "package _a1": "file:_a1", "package main;\n": "file:main",
		"package P\r\n": "file:P", "/* a */package/* b */p/* c */": "file:p", "// a\npackage p // b": "file:p",
		"package p // b\n": "file:p", "package p/*\n*/": "file:p", "package p; // b": "file:p", "package int": "file:int",
	} {
		expectFile(t, source, want)
	}
}

func TestPackageClauseWrong(t *testing.T) {
	expectNone(t, "package", "package;", "package\n", "package ;p", "package p q", "package p.q", "package p/q", "package p,q",
		"package (p)",
		"package \"p\"", "package `p`", "package 1", "package 1.5", "package p 1", "package p {}", "package p()", "package p = 1",
		"package p.",
		"package *p", "package p:", "package package", "package func", "package type", "package import", "package break",
		"package p package q",
		"p", "p p", "packagep", "Package p", "PACKAGE p", "package-p", "p package", "(package p)", "{package p}", "; package p",
		";\npackage p",
		"package p, package q")
	for _, word := range words() {
		expectNone(t, "package "+word, "package "+word+"\n", word, word+" p", word+" p;")
	}
}

// words is Go's keywords, but for the one that begins a file.
func words() []string {
	return strings.Fields("break case chan const continue default defer else fallthrough for func go goto if import interface map range " +
		"return select struct switch type var")
}

// The package's clause stands once, ahead of all else.
func TestPackageClauseLeftOutTwiceAndNotFirst(t *testing.T) {
	for _, rest := range []string{"import \"a\"", "var x T", "var x = 1", "const c = 1", "type T U", "func f() {}", "func (r T) m() {}"} {
		expectNone(t, rest, rest+"\n", rest+";", rest+"; package p", rest+"\npackage p\n", "package p; package q; "+rest,
			"package p; package p; "+rest, "package p\n"+rest+"\npackage p\n", "package p; "+rest+"; package q", "package; "+rest,
			"package p "+rest, "package "+rest, "; package p; "+rest)
	}
	expectNone(t, "package p; package p", "package p\npackage q", "package p;package p;")
}

func TestImports(t *testing.T) {
	for source, want := range map[string]string{
		`import "a"`:                          `import:"a"`,
		`import "a";`:                         `import:"a"`,
		"import \"a\"\n":                      `import:"a"`,
		"import\n\"a/b/c\"\n":                 `import:"a/b/c"`,
		`import""`:                            `import:""`,
		"import `a/b`":                        "import:`a/b`",
		"import `a\n\r\nb`":                   "import:`a\n\r\nb`",
		"import ``":                           "import:``",
		`import "a\n\"\x41\u00e4 b"`:          `import:"a\n\"\x41\u00e4 b"`,
		`import "ä"`:                          `import:"ä"`,
		`import "a"; import "b"`:              `import:"a" import:"b"`,
		"import \"b\"\nimport \"a\";":         `import:"b" import:"a"`,
		"import \"a\"\n\nimport \"a\"\n":      `import:"a" import:"a"`,
		"import \"a\"; import `b`\nvar x T":   "import:\"a\" import:`b` var:x(T -)",
		`import "a"; func f() { }`:            `import:"a" func:f(- list sig(list -) block)`,
		`import/* c */"a"/* d */;/* e */`:     `import:"a"`,
		"import \"a\" // c\nimport \"b\" //":  `import:"a" import:"b"`,
		"import \"a\"; type T U\nconst c = 1": `import:"a" type:T(list U) const:c(- int:1)`,
	} {
		expectFile(t, "package p; "+source, "file:p("+want+")")
		expectFile(t, "package p\n\n"+source, "file:p("+want+")")
	}
}

// An import is its word and a string, nothing else.
func TestImportsWrong(t *testing.T) {
	for _, wrong := range []string{"import", "import a", "import a.b", "import 1", "import 1.5", "import (\"a\")", "import ()",
		"import ( \"a\"; \"b\" )",
		"import a \"b\"", "import . \"a\"", "import _ \"a\"", "import \"a\" \"b\"", "import \"a\", \"b\"", "import \"a\" b",
		"import \"a\" + \"b\"",
		"import \"a\" import \"b\"", "import = \"a\"", "import \"a\" = 1", "import {\"a\"}", "import [\"a\"]", "import \"a\".b",
		"import \"a\"()",
		"import import", "import var", "import var x T", "import;", "import ; \"a\"", "imports \"a\"", "\"a\"", "import -\"a\"",
		"import \"a\":"} {
		expectNone(t, "package p; "+wrong, "package p\n"+wrong+"\n", "package p; "+wrong+";", "package p; import \"x\"; "+wrong,
			"package p; "+wrong+"; var x T",
			"package p; "+wrong+"; import \"x\"", wrong, wrong+"; package p")
	}
	for _, word := range words() {
		expectNone(t, "package p; import "+word, "package p; import "+word+" \"a\"", "package p; import \"a\" "+word)
	}
}

// Imports stand ahead of all other declarations.
func TestImportsBehindDeclarations(t *testing.T) {
	for source, want := range map[string]string{"var x T": "var:x(T -)", "var x = \"a\"": "var:x(- string:\"a\")",
		"const c = 1": "const:c(- int:1)", "type T U": "type:T(list U)",
		"func f() {}": "func:f(- list sig(list -) block)", "func (r T) m() {}": "func:m(param:r(T) list sig(list -) block)"} {
		expectFile(t, "package p; import \"a\"; "+source, "file:p(import:\"a\" "+want+")")
		expectNone(t, "package p; "+source+"; import \"a\"", "package p\n"+source+"\nimport \"a\"\n",
			"package p; import \"a\"; "+source+"; import \"b\"",
			"package p; "+source+"; import \"a\"; "+source, "import \"a\"; package p; "+source, "package p; import \"a\" "+source)
	}
}

// Each part has one semicolon behind it, written or not, and no other one stands anywhere.
func TestSemicolons(t *testing.T) {
	parts := []string{"package p", "import \"a\"", "import `b`", "var x T", "var y = 1", "const c = \"s\"", "type T struct { a U }",
		"type V W[X]",
		"func f(a T) T { return a }", "func (r T) m() { }", "var z = f(a)", "var w = b[1]", "var v = .5"}
	const tree = "file:p(import:\"a\" import:`b` var:x(T -) var:y(- int:1) const:c(- string:\"s\") type:T(list struct(field:a(U))) " +
		"type:V(list index(W X)) func:f(- list sig(list(param:a(T)) T) block(return(a))) func:m(param:r(T) list sig(list -) block) " +
		"var:z(- call(f a)) var:w(- index(b int:1)) var:v(- float:.5))"
	for _, between := range []string{";", " ; ", "\n", "\n\n\n", ";\n", ";\n\n", " ;\t\r\n", "\r\n", " // c\n", "; // c\n", "/*\n*/",
		"/* c */;", ";/*\n*/",
		"/*a*//*\n*/ /*b*/\n"} {
		for _, end := range []string{"", ";", "\n", ";\n", " // c", " /* c */", "\n\n// c", "/*\n*/", ";/* c */\n", " \t\r\n"} {
			expectFile(t, strings.Join(parts, between)+end, tree)
		}
	}
	for i := 1; i <= len(parts); i++ {
		ahead, behind := strings.Join(parts[:i], ";"), strings.Join(parts[i:], ";")
		for _, tooMany := range []string{";;", "; ;", ";\n;", "\n;", "\n\n;\n", "//\n;", "/*\n*/;", ";/*\n*/;", ",", ",\n", ":", ".", "=",
			";,", ",;"} {
			expectNone(t, ahead+tooMany+behind)
		}
		for _, tooFew := range []string{"", " ", "\t", "\r", "/* c */", " /*a*/ /*b*/ "} {
			if behind != "" {
				expectNone(t, ahead+tooFew+behind)
			}
		}
	}
	expectNone(t, ";", ";;", "package p; ;", "package p;;", "package p\n;", "package p;\n;\n", "package p; var x T;;",
		"package p; var x T\n;",
		"package p; import \"a\";;", "package p; import \"a\"\n;", "package p; ; import \"a\"", "package p; func f() {};;",
		"package p; func f() {}\n;")
}

func TestNothing(t *testing.T) {
	expectNone(t, "", " ", "\n", "\n\n", ";", ";;", "//", "// a\n", "/* a */", "/*\n*/", "\t\r\n ", "\"package p\"", "`package p`",
		"// package p",
		"/* package p */", "//\tpackage p\n")
	for _, src := range [][]byte{nil, {}} {
		if n, at, ok := parsefile.File(src); ok || at != 0 || !reflect.DeepEqual(n, api.Node{}) {
			t.Errorf("P0.4: %s, %d, %t", told(n), at, ok)
		}
	}
}

// What is no declaration does not stand in a file.
func TestWhatIsNoDeclaration(t *testing.T) {
	expectNoDecl(t, "x", "x := 1", "x = 1", "x += 1", "x++", "f()", "{ }", "{}", "{ var x T }", "1", "\"a\"", "`a`", "return", "return 1",
		"break", "continue", "if a { }",
		"for { }", "for range a { }", "switch { }", "L: for { }", "defer f()", "case a:", "default:", "func() { }", "func() { }()",
		"struct { }", "interface { }",
		"map[K]V", "[]T", "[2]T{}", "*p", "(x)", "(var x T)", "{ var x T }", "vars x T", "Var x T", "VAR x T", "variable x T",
		"constant c = 1", "types T U",
		"function f() { }", "fun f() { }", "go f()", "goto L", "L:", "package", "end", ".", ",", "=", ":=", "}", ")", "]", "var x T }",
		"func f() { } }", "var x T )")
	for _, word := range words() {
		expectNoDecl(t, word, word+" "+word, "x "+word, "var "+word+" T", "var "+word+" = 1", "const "+word+" = 1", "type "+word+" T",
			"func "+word+"() { }",
			"func ("+word+" T) m() { }", "func (r "+word+") m() { }", "func (r T) "+word+"() { }", "func (r T["+word+"]) m() { }",
			"type T["+word+" C] U",
			"func f["+word+" C]() { }", "func f("+word+" T) { }", "type T[P ~"+word+"] U", "var x T = "+word, "const c = "+word)
		if word != "var" && word != "type" {
			expectNoDecl(t, word+" x T")
		}
		if word != "var" && word != "const" {
			expectNoDecl(t, word+" x = 1")
		}
		if word != "func" {
			expectNoDecl(t, word+" f() { }")
		}
	}
}

func TestTokensAlone(t *testing.T) {
	for _, op := range strings.Fields("+ - * / % & | ^ &^ += -= *= /= %= &= |= ^= &^= && || == != < <= > >= ! ( ) [ ] { } , . := = ++ -- ~ :") {
		expectNone(t, op, op+" package p", "package "+op, "package p "+op, "package "+op+" p", "package p; import "+op,
			"package p; import \"a\" "+op)
		expectNoDecl(t, op, op+" "+op, op+" x", op+" var x T", "var "+op, "const "+op, "type "+op, "func "+op, "var x "+op, "const c "+op,
			"type T "+op, "func f "+op,
			"func f() "+op, "func f() { } "+op, "func (r T) "+op, "func "+op+" f() { }", "var x T "+op, "type T U "+op,
			"type T["+op+" C, Q C] U", "func f["+op+" C]() { }",
			"func (r "+op+") m() { }", "func (r T) m() "+op)
		if op != "*" {
			expectNoDecl(t, "func (r "+op+" T) m() { }")
		}
	}
}

func TestWhatCannotBeScanned(t *testing.T) {
	for source, want := range map[string]int{
		"#": 0, "package p; #": 11, "package p#": 9, "#package p": 0, "package # p": 8, "package p\n\n  @": 13,
		"package p; var x = 1 ? 2": 21,
		"\x00":                     0, "package p\x00": 9, "\xff": 0, "package \xff": 8, "package p; var ä T": 15, "package p; $": 11,
		"package p; var x = 'a'": 19,
		"x #":                    2, "var ; ; #": 8, "package p; func f() { # }": 22, "package p; ; #": 13, "import \"a\"; #": 12,
		"package p; type T[P #] U": 20,
	} {
		n, at, ok := parsefile.File([]byte(source))
		if ok || at != want || !reflect.DeepEqual(n, api.Node{}) {
			t.Errorf("P9.1: %q is read as %s, %d, %t, not with the place %d", source, told(n), at, ok, want)
		}
	}
	for _, wrong := range []string{"#", "@", "?", "$", "'a'", "\"a", "`a", "1_0", "01", "0x", "1e1000", "1...", "/*", "/* a", "\"\\q\"",
		"\"\xff\"", "`\xff`", "\"a\nb\"", "\x80",
		"ä", "\x00", "0b2", "1e", "1x", "\"\\ud800\"", "\\"} {
		expectNone(t, wrong, wrong+" package p", "package "+wrong, "package p "+wrong, "package p; "+wrong, "package p\n"+wrong+"\n",
			"package p; import "+wrong,
			"package p; import \"a\"; "+wrong)
		expectNoDecl(t, wrong, "var x "+wrong, "var x = "+wrong, "const c = "+wrong, "type T "+wrong, "type T["+wrong+" C] U",
			"type T [1 "+wrong+"]U", "func "+wrong,
			"func f("+wrong+") { }", "func f() { "+wrong+" }", "func f() { } "+wrong, "func ("+wrong+" T) m() { }", "x "+wrong,
			"var x T = func() { "+wrong+" }")
	}
}
