package parseexpr_test

import (
	"reflect"
	"slices"
	"strconv"
	"strings"
	"testing"

	"sterling/api"
	"sterling/parseexpr"
	"sterling/scan"
	"sterling/syntax"
)

// kindName is the word by which told names a kind; operators and names are told by their text alone.
func kindName(kind int) string {
	names := map[int]string{
		api.NDot: "dot", api.NIndex: "index", api.NCall: "call", api.NParen: "paren", api.NInt: "int", api.NFloat: "float",
		api.NString: "string", api.NLit: "lit", api.NKey: "key", api.NFuncLit: "funclit", api.NAssert: "assert", api.NArray: "array",
		api.NSlice: "slice", api.NStar: "star", api.NMap: "map", api.NFuncType: "func", api.NStruct: "struct", api.NField: "field",
		api.NInterface: "interface", api.NMethod: "method", api.NUnion: "union", api.NTilde: "tilde", api.NList: "list",
		api.NParam: "param", api.NBlock: "block", api.NExprStmt: "stmt", api.NName: "", api.NUnary: "", api.NBinary: "",
	}
	if name, ok := names[kind]; ok {
		return name
	}
	return "?"
}

// told writes a tree: a kind, a colon and the text, the kids in brackets; `-` is an absent one.
func told(n api.Node) string {
	if n.Kind == api.NNone {
		return "-"
	}
	s := kindName(n.Kind)
	if n.Text != "" && s != "" {
		s += ":"
	}
	s += n.Text
	if len(n.Kids) == 0 {
		return s
	}
	var kids []string
	for _, kid := range n.Kids {
		kids = append(kids, told(kid))
	}
	return s + "(" + strings.Join(kids, " ") + ")"
}

// reader is one of the functions that read a whole source.
type reader func(src []byte) (api.Node, bool)

// expectTree asks for a tree as told, whole and in place, and for the same of its text.
func expectTree(t *testing.T, read reader, source, want string) api.Node {
	t.Helper()
	n, ok := read([]byte(source))
	if !ok || told(n) != want {
		t.Errorf("P7.1: %q is read as %s, %t, not as %s", source, told(n), ok, want)
		return api.Node{}
	}
	expectPlaces(t, source, n)
	expectBack(t, read, n)
	return n
}

// expectBack asks that the text of a tree that was read is read as the same tree.
func expectBack(t *testing.T, read reader, n api.Node) {
	t.Helper()
	text := syntax.Print(n)
	if again, ok := read([]byte(text)); !ok || !syntax.Eq(n, again) {
		t.Errorf("P6.2: Print(%s) is %q, which is read as %s, %t", told(n), text, told(again), ok)
	}
}

// expectNone asks for a zero node and false.
func expectNone(t *testing.T, read reader, source string) {
	t.Helper()
	if n, ok := read([]byte(source)); ok || !reflect.DeepEqual(n, api.Node{}) {
		t.Errorf("P7.1, P0.2: %.300q is read as %.300s, %t", source, told(n), ok)
	}
}

// expectExpr asks for a tree of an expression or a type, alone, with a semicolon at the end, and wherever an argument may
// stand.
func expectExpr(t *testing.T, source, want string) {
	t.Helper()
	expectTree(t, parseexpr.Expr, source, want)
	expectEnds(t, parseexpr.Expr, source, want)
	for around, tree := range map[string]string{
		"($)": "paren(%)", "f($)": "call(f %)", "f(x, $,)": "call(f x %)", "f($ ...)": "call:...(f %)", "f[$]": "index(f %)",
		"f[x, $, y]": "index(f x % y)", "T{$}": "lit(T %)", "[]T{x, y: $,}": "lit(slice(T) x key(y %))",
		"p.T{$: y}": "lit(dot:T(p) key(% y))",
		"[$]T":      "array(% T)", "func([$]T)": "func(list(param(array(% T))) -)", "((($)))": "paren(paren(paren(%)))",
	} {
		expectTree(t, parseexpr.Expr, strings.ReplaceAll(around, "$", source), strings.ReplaceAll(tree, "%", want))
	}
}

// expectType asks for a tree of a type, alone, with a semicolon at the end, and wherever a type may stand.
func expectType(t *testing.T, source, want string) {
	t.Helper()
	expectExpr(t, source, want)
	expectTree(t, parseexpr.Type, source, want)
	expectEnds(t, parseexpr.Type, source, want)
	for around, tree := range map[string]string{
		"($)": "paren(%)", "[]$": "slice(%)", "[n]$": "array(n %)", "*$": "star(%)", "map[$]T": "map(% T)", "map[K]$": "map(K %)",
		"G[$]": "index(G %)", "p.G[A, $,]": "index(dot:G(p) A %)", "func() $": "func(list %)",
		"func($)": "func(list(param(%)) -)", "func(A, $,) B": "func(list(param(A) param(%)) B)", "func(_ $)": "func(list(param:_(%)) -)",
		"struct{a $}": "struct(field:a(%))", "struct{a $; b T}": "struct(field:a(%) field:b(T))", "interface{$}": "interface(union(%))",
		"interface{~$|T}": "interface(union(tilde(%) T))", "interface{T|$;}": "interface(union(T %))",
		"interface{m(a $)}": "interface(method:m(func(list(param:a(%)) -)))", "interface{m() $}": "interface(method:m(func(list %)))",
	} {
		tree = strings.ReplaceAll(tree, "%", want)
		expectTree(t, parseexpr.Type, strings.ReplaceAll(around, "$", source), tree)
		expectTree(t, parseexpr.Expr, strings.ReplaceAll(around, "$", source), tree)
	}
	expectTree(t, parseexpr.Expr, "x.("+source+").y", "dot:y(assert(x "+want+"))")
}

// expectEnds asks for one semicolon at the end, written or not, and for no two.
func expectEnds(t *testing.T, read reader, source, want string) {
	t.Helper()
	for _, end := range []string{";", " ; ", "\n", "\n\n\t\n", ";\n", " // end", "// end\n", "/* end */;", "/*\n*/"} {
		expectTree(t, read, source+end, want)
	}
	for _, end := range []string{";;", "; ;", "\n;", "\n\n;", ";\n;", "//\n;", "/*\n*/;", ",", ";x", "\nx", " 1", ")", "\n)", "]", "}", ":", " .", " = x", "++"} {
		expectNone(t, read, source+end)
	}
	for _, ahead := range []string{";", ")", "]", "}", ",", ". ", ": ", "= ", "x ; ", "x\n", "/ ", "| "} {
		expectNone(t, read, ahead+source)
	}
}

// expectNoExpr asks that a source is neither an expression nor a type.
func expectNoExpr(t *testing.T, sources ...string) {
	t.Helper()
	for _, source := range sources {
		expectNone(t, parseexpr.Expr, source)
		expectNone(t, parseexpr.Type, source)
	}
}

// expectNoType asks that a source is an expression, but no type, and stands where none but a type may stand neither.
func expectNoType(t *testing.T, sources ...string) {
	t.Helper()
	for _, source := range sources {
		if _, ok := parseexpr.Expr([]byte(source)); !ok {
			t.Errorf("P7.1: %q is no expression", source)
		}
		expectNone(t, parseexpr.Type, source)
		for _, around := range []string{"map[$]T", "x.($)", "func(*$)", "func(a $)", "func() ($)", "struct{a $}", "interface{T|$}", "interface{~$}", "interface{m() $}", "[]G[$]"} {
			expectNoExpr(t, strings.ReplaceAll(around, "$", source))
		}
	}
}

// expectPlaces asks that each node is shaped as the table of doc/06-syntax.md has it and stands where its first token does.
func expectPlaces(t *testing.T, source string, n api.Node) {
	t.Helper()
	tokens, _, _ := scan.Scan([]byte(source))
	texts := map[int]string{}
	for _, token := range slices.Backward(tokens) {
		texts[token.At] = token.Text
	}
	syntax.Walk(n, func(_, _ int, n api.Node) bool {
		if !placed(n, texts[n.At]) {
			t.Errorf("P7.1: in %q %s is at %d, %q", source, told(n), n.At, texts[n.At])
		}
		return true
	})
}

// placed tells whether n may begin with a token, by its kind.
func placed(n api.Node, token string) bool {
	kids := len(n.Kids)
	switch n.Kind {
	case api.NNone:
		return reflect.DeepEqual(n, api.Node{})
	case api.NName, api.NInt, api.NFloat, api.NString:
		return token == n.Text && kids == 0
	case api.NDot:
		return atKid(n) && n.Text != "" && kids == 1
	case api.NBinary:
		return atKid(n) && n.Text != "" && kids == 2
	case api.NIndex:
		return atKid(n) && n.Text == "" && kids >= 2
	case api.NCall:
		return atKid(n) && (n.Text == "" || n.Text == "..." && kids > 1)
	case api.NAssert, api.NKey:
		return atKid(n) && n.Text == "" && kids == 2
	case api.NLit, api.NUnion:
		return atKid(n) && n.Text == ""
	case api.NUnary:
		return token == n.Text && strings.Contains("+-!^&", token) && kids == 1
	case api.NParam, api.NField:
		return kids == 1 && (n.Text == "" && atKid(n) || n.Text != "" && token == n.Text)
	case api.NMethod:
		return kids == 1 && n.Kids[0].Kind == api.NFuncType && token == n.Text
	}
	return placedByWord(n, token)
}

func atKid(n api.Node) bool { return len(n.Kids) > 0 && n.At == n.Kids[0].At }

// placedByWord is placed for the kinds that have no text and begin with a token of their own.
func placedByWord(n api.Node, token string) bool {
	form := map[int]struct {
		begins      string
		least, most int
	}{
		api.NParen: {"(", 1, 1}, api.NStar: {"*", 1, 1}, api.NArray: {"[", 2, 2}, api.NSlice: {"[", 1, 1}, api.NMap: {"map", 2, 2},
		api.NFuncType: {"func (", 2, 2}, api.NFuncLit: {"func", 2, 2}, api.NStruct: {"struct", 0, 1 << 30}, api.NTilde: {"~", 1, 1},
		api.NInterface: {"interface", 0, 1 << 30}, api.NList: {"(", 0, 1 << 30}, api.NBlock: {"{", 0, 1 << 30},
	}[n.Kind]
	return slices.Contains(strings.Fields(form.begins), token) && n.Text == "" && form.least <= len(n.Kids) && len(n.Kids) <= form.most
}

func TestNothing(t *testing.T) {
	expectNoExpr(t, "", " ", "\n", "\n\n", ";", ";;", "//", "// a", "// a\n", "/* a */", "/*\n*/", "\t\r\n ")
	for _, read := range []reader{parseexpr.Expr, parseexpr.Type} {
		if n, ok := read(nil); ok || !reflect.DeepEqual(n, api.Node{}) {
			t.Errorf("P0.4: %s, %t", told(n), ok)
		}
	}
}

func TestWhatCannotBeScanned(t *testing.T) {
	expectNoExpr(t, "#", "a #", "# a", "a + #", "(a) @", "a\x00", "\x00", "\xff", "ä", "a\xe4", `"a`, "`a", "\"a\nb\"", `"\q"`, "'a'",
		"1_0", "01", "0x",
		"1e", "1e1000", "1.x", "1...", "f(1...)", "a /*", "a ? b", "a $ b", "a \\ b", `"\ud800"`, "\"\xff\"", "T{#}", "func() #", "a; #")
}

// No operator and no word stands alone, nor where an operand or a name must.
func TestTokensAlone(t *testing.T) {
	for _, op := range strings.Fields("+ - * / % & | ^ &^ += -= *= /= %= &= |= ^= &^= && || == != < <= > >= ! ( ) [ ] { } , ; . := = ++ -- ~ :") {
		expectNoExpr(t, op, op+" "+op, op+op, "a "+op+" ;", op+" ;", "("+op+")", "f("+op+")", "f(a, "+op+")", "T{"+op+"}", "x.("+op+")",
			"x["+op+"]")
	}
	for _, word := range strings.Fields("break case chan const continue default defer else fallthrough for func go goto if " +
		"import interface map package range return select struct switch type var") {
		expectNoExpr(t, word, word+" "+word, "a "+word, "a."+word, "a."+word+"()", "("+word+")", "f("+word+")", "T{"+word+": a}", word+" a",
			"- "+word, "a + "+word, "["+word+"]T")
		expectNoExpr(t, "struct{"+word+" T}", "struct{"+word+"}", "struct{*"+word+"}", "struct{p."+word+"}", "interface{"+word+"}",
			"p."+word, "func("+word+" T)", "interface{a;"+word+"(}")
	}
	expectNoExpr(t, "chan T", "<- a", "a << b", "a >> b", "go f()", "a := b", "a = b", "a++", "--a", "++a", "a, b", "a b", "a 1", `a "b"`,
		"1 a", "1 2", `"a" "b"`, "(a) b", "a (b) c", "[]a b")
}

// The places of some nodes, by hand: those of operators and of what stands behind an operand are their first kids'.
func TestPlaces(t *testing.T) {
	for source, want := range map[string]string{
		" a":                               "a@1",
		"\n\ta + b * - c":                  "+@2 a@2 *@6 b@6 -@10 c@12",
		"(a . b) [ c ]":                    "index@0 paren@0 dot:b@1 a@1 c@10",
		" f ( x , * p ... )":               "call:...@1 f@1 x@5 star@9 p@11",
		"x /**/ . ( [ ] T )":               "assert@0 x@0 slice@11 T@15",
		"& p . T { k : 1 , .5 , `s` }":     "&@0 lit@2 dot:T@2 p@2 key@10 k@10 int:1@14 float:.5@18 string:`s`@23",
		" [ n ] map [ K ] V { }":           "lit@1 array@1 n@3 map@7 K@13 V@17",
		" func ( a T , b U ) V":            "func@1 list@6 param:a@8 T@10 param:b@14 U@16 V@20",
		" func ( T [ U ] )":                "func@1 list@6 param@8 index@8 T@8 U@12 -@0",
		"struct { a T ; * p . U ; V }":     "struct@0 field:a@9 T@11 field@15 star@15 dot:U@17 p@17 field@25 V@25",
		"interface { m ( ) ; ~ A | B }":    "interface@0 method:m@12 func@14 list@14 -@0 union@20 tilde@20 A@22 B@26",
		"/* c */ ( // d\n a )":             "paren@8 a@16",
		"a . b . ( T ) [ i ] ( x ) . c":    "dot:c@0 call@0 index@0 assert@0 dot:b@0 a@0 T@10 i@16 x@22",
		" func ( ) interface { m ( a B )}": "func@1 list@6 interface@10 method:m@22 func@24 list@24 param:a@26 B@28 -@0 ",
	} {
		n, ok := parseexpr.Expr([]byte(source))
		var got []string
		syntax.Walk(n, func(_, _ int, n api.Node) bool {
			got = append(got, told(api.Node{Kind: n.Kind, Text: n.Text})+"@"+strconv.Itoa(n.At))
			return true
		})
		if !ok || strings.Join(got, " ") != strings.TrimSpace(want) {
			t.Errorf("P7.1: the places of %q are %s, %t, not %s", source, strings.Join(got, " "), ok, want)
		}
	}
}
