package parseexpr_test

import (
	"errors"
	"reflect"
	"slices"
	"strconv"
	"strings"
	"testing"

	"sterling/api"
	"sterling/parseexpr"
	"sterling/scan"
)

func newReader(t *testing.T, source string) *parseexpr.Reader {
	t.Helper()
	r, ok := parseexpr.New([]byte(source))
	if r == nil || !ok {
		t.Fatalf("P7.2: New(%q): %t", source, ok)
	}
	return r
}

// rest is the texts of the tokens that a Reader has still ahead of it, but for the semicolon and the end.
func rest(r *parseexpr.Reader) string {
	var texts []string
	for r.Peek().Kind != api.TEnd {
		texts = append(texts, r.Next().Text)
	}
	return strings.TrimSpace(strings.Join(texts, " "))
}

func TestPeekAndNext(t *testing.T) {
	for _, source := range []string{"", ";", "a", "a + 1.5 // c\n\"s\";\nbreak\n}", "func ( ) { return x ... }\n", "case type := range `r`", "\n\n", "a\n\nb;;c"} {
		want, _, _ := scan.Scan([]byte(source))
		r := newReader(t, source)
		for i, token := range want {
			if r.Peek() != token || r.Peek() != token || r.Next() != token {
				t.Errorf("P7.2: token %d of %q is not %v", i, source, token)
			}
		}
		end := api.Token{Kind: api.TEnd, At: len(source)}
		for range 5 {
			if r.Next() != end || r.Peek() != end {
				t.Errorf("P7.2: behind the end of %q stands %v", source, r.Peek())
			}
		}
		for _, read := range []func() (api.Node, bool){r.Type, r.Sig, func() (api.Node, bool) { return r.Expr(true) }} {
			if n, ok := read(); ok || !reflect.DeepEqual(n, api.Node{}) || r.Next() != end {
				t.Errorf("P7.2: at the end of %q is read %s, %t", source, told(n), ok)
			}
		}
	}
}

func TestNewOfWhatCannotBeScanned(t *testing.T) {
	for _, source := range []string{"#", "a #", "\"", "`", "1...", "/*", "\xff", "a\x00", "1e1000"} {
		if r, ok := parseexpr.New([]byte(source)); r != nil || ok {
			t.Errorf("P7.2: New(%q): %v, %t", source, r, ok)
		}
	}
	if r, ok := parseexpr.New(nil); r == nil || !ok {
		t.Errorf("P7.2, P0.4: New(nil): %v, %t", r, ok)
	}
}

// No Reader, and one that nothing made, have nothing to read.
func TestReadersOfNothing(t *testing.T) {
	for _, r := range []*parseexpr.Reader{nil, {}} {
		r.SetBlock(nil)
		r.SetBlock(func(*parseexpr.Reader) (api.Node, bool) { return api.Node{}, true })
		if r.Peek() != (api.Token{}) || r.Next() != (api.Token{}) || r.Next() != (api.Token{}) {
			t.Errorf("P0.1: %v", r.Peek())
		}
		for _, read := range []func() (api.Node,
			bool){r.Type, r.Sig, func() (api.Node, bool) { return r.Expr(false) }, func() (api.Node, bool) { return r.Expr(true) }} {
			if n, ok := read(); ok || !reflect.DeepEqual(n, api.Node{}) {
				t.Errorf("P0.1: %s, %t", told(n), ok)
			}
		}
	}
}

// part is a way to read a part of a source.
type part func(r *parseexpr.Reader) (api.Node, bool)

func inHead(r *parseexpr.Reader) (api.Node, bool) { return r.Expr(true) }

func outside(r *parseexpr.Reader) (api.Node, bool) { return r.Expr(false) }

// expectPart asks for a tree and for what is left behind it.
func expectPart(t *testing.T, read part, source, want, left string) {
	t.Helper()
	r := newReader(t, source)
	n, ok := read(r)
	if got := rest(r); !ok || told(n) != want || got != left {
		t.Errorf("P7.2: %q is read as %s, %t, ahead of %q, not as %s ahead of %q", source, told(n), ok, got, want, left)
	}
	if ok {
		expectPlaces(t, source, n)
	}
}

func expectNoPart(t *testing.T, read part, sources ...string) {
	t.Helper()
	for _, source := range sources {
		r := newReader(t, source)
		if n, ok := read(r); ok || !reflect.DeepEqual(n, api.Node{}) {
			t.Errorf("P7.2, P0.2: %q is read as %s, %t", source, told(n), ok)
		}
		// What was passed over is not said, but the rest is there.
		rest(r)
	}
}

func TestExprsReadAsFarAsTheyGo(t *testing.T) {
	for _, c := range [][3]string{
		{"a", "a", ""}, {"a b c", "a", "b c"}, {"a + b c", "+(a b)", "c"}, {"a, b", "a", ", b"}, {"a := b", "a", ":= b"},
		{"a = b", "a", "= b"}, {"a += b", "a", "+= b"}, {"a++", "a", "++"}, {"a--", "a", "--"}, {"a: b", "a", ": b"}, {"a; b", "a", "; b"},
		{"a)", "a", ")"}, {"a.b]", "dot:b(a)", "]"}, {"f(a)}", "call(f a)", "}"}, {"a.b.(type) {", "dot:b(a)", ". ( type ) {"},
		{"f().(type)", "call(f)", ". ( type )"}, {"-a.(type)", "-(a)", ". ( type )"}, {"a + b.(type)", "+(a b)", ". ( type )"},
		{"a...", "a", ". . ."}, {"a + b ...)", "+(a b)", ". . . )"}, {"1 ...", "int:1", ". . ."}, {"a.1", "a", ".1"},
		{"-a b", "-(a)", "b"}, {"a ! b", "a", "! b"}, {"a ~ b", "a", "~ b"}, {"[]a b", "slice(a)", "b"}, {"(a) {", "paren(a)", "{"},
		{"1 {", "int:1", "{"}, {"f() {}", "call(f)", "{ }"}, {"a.b.c {}", "dot:c(dot:b(a))", "{ }"}, {"[]a range", "slice(a)", "range"},
		{"func() case", "func(list -)", "case"},
		{"T{a} b", "lit(T a)", "b"}, {"*[]a, b", "star(slice(a))", ", b"}, {"interface{} {", "interface", "{"},
		{"a | b | c;", "|(|(a b) c)", ";"},
	} {
		expectPart(t, outside, c[0], c[1], c[2])
		expectPart(t, outside, "\n"+c[0], c[1], c[2])
		if !strings.HasPrefix(c[0], "T{") {
			expectPart(t, inHead, c[0], c[1], c[2])
		}
	}
	r := newReader(t, "a\n + b")
	if n, ok := r.Expr(false); !ok || told(n) != "a" || r.Next().Text != "\n" || r.Next().Text != "+" {
		t.Error("P7.2: an expression goes on behind the end of a line")
	}
	for _, read := range []part{inHead, outside} {
		expectNoPart(t, read, "", ";", ")", "a +", "a + ;", "a.", "a. 1", "a. .b", "a..b", "a . . .", "f(", "f(a", "f(a b)", "a[", "a[]",
			"(", "()", ", a", ":= a", "= a", "{", "{}", "case", "return a", "var a", "type", ":", "...", "func", "func() (", "[", "[]",
			"map", "struct{", "~a", "-", "* ;", "a.(", "a.()", "(a.(type))", "a && || b", "a + if")
	}
}

// In a head the braces behind a name are left, but for those inside of brackets and of elements.
func TestHeads(t *testing.T) {
	for _, c := range [][4]string{
		{"T{a}", "lit(T a)", "T", "{ a }"}, {"p.T{}", "lit(dot:T(p))", "dot:T(p)", "{ }"},
		{"T[a]{b: c}", "lit(index(T a) key(b c))", "index(T a)", "{ b : c }"},
		{"p.T[a, b]{}", "lit(index(dot:T(p) a b))", "index(dot:T(p) a b)", "{ }"},
		{"a == T{}", "==(a lit(T))", "==(a T)", "{ }"}, {"T{} == a", "==(lit(T) a)", "T", "{ } == a"}, {"-T{}", "-(lit(T))", "-(T)", "{ }"},
		{"*T{}", "star(lit(T))", "star(T)", "{ }"}, {"&p.T{}", "&(lit(dot:T(p)))", "&(dot:T(p))", "{ }"},
		{"a && !b || -T{}", "||(&&(a !(b)) -(lit(T)))", "||(&&(a !(b)) -(T))", "{ }"},
		{"a * b * T{}", "*(*(a b) lit(T))", "*(*(a b) T)", "{ }"},
		{"[]T{}.a == U{}", "==(dot:a(lit(slice(T))) lit(U))", "==(dot:a(lit(slice(T))) U)", "{ }"},
		{"T{}.(U)", "assert(lit(T) U)", "T", "{ } . ( U )"},
	} {
		expectPart(t, outside, c[0], c[1], "")
		expectPart(t, inHead, c[0], c[2], c[3])
	}
	for _, c := range [][3]string{
		{"(T{a}) {}", "paren(lit(T a))", "{ }"}, {"(a == T{}) {}", "paren(==(a lit(T)))", "{ }"},
		{"((T{})) {}", "paren(paren(lit(T)))", "{ }"}, {"f(T{}) {}", "call(f lit(T))", "{ }"},
		{"f(a, T{b}...) {}", "call:...(f a lit(T b))", "{ }"}, {"a.b(p.T{}) {}", "call(dot:b(a) lit(dot:T(p)))", "{ }"},
		{"f(-T{} + U{}) {}", "call(f +(-(lit(T)) lit(U)))", "{ }"},
		{"[]T{} {}", "lit(slice(T))", "{ }"}, {"[]T{U{}} {}", "lit(slice(T) lit(U))", "{ }"},
		{"[]T{U{}: V{}} {}", "lit(slice(T) key(lit(U) lit(V)))", "{ }"}, {"[3]p.T{a} {}", "lit(array(int:3 dot:T(p)) a)", "{ }"},
		{"[T{}.n]U{V{}} {}", "lit(array(dot:n(lit(T)) U) lit(V))", "{ }"},
		{"map[a]b{T{}: U{}} {}", "lit(map(a b) key(lit(T) lit(U)))", "{ }"},
		{"struct{a b}{T{}} {}", "lit(struct(field:a(b)) lit(T))", "{ }"},
		{"struct{a [T{}.n]b}{} {}", "lit(struct(field:a(array(dot:n(lit(T)) b))))", "{ }"},
		{"a == []T{} {}", "==(a lit(slice(T)))", "{ }"}, {"&[]T{} {}", "&(lit(slice(T)))", "{ }"},
		{"x.([T{}.n]U) {}", "assert(x array(dot:n(lit(T)) U))", "{ }"}, {"x.(struct{a T}) {}", "assert(x struct(field:a(T)))", "{ }"},
		{"x.(T) {}", "assert(x T)", "{ }"}, {"func(a [T{}.n]U) b {}", "", ""}, {"[]T(a) {}", "call(slice(T) a)", "{ }"},
		{"interface{m()} {}", "interface(method:m(func(list -)))", "{ }"},
		{"a[b] {}", "index(a b)", "{ }"}, {"a[T{}] {}", "index(a lit(T))", "{ }"},
		{"a[T{}, U{b}].c {}", "dot:c(index(a lit(T) lit(U b)))", "{ }"}, {"a {}", "a", "{ }"}, {"a.b {}", "dot:b(a)", "{ }"},
		{"a + b.c {}", "+(a dot:c(b))", "{ }"}, {"a {", "a", "{"}, {"a; b {}", "a", "; b { }"},
	} {
		if c[1] == "" {
			expectNoPart(t, inHead, c[0])
			continue
		}
		expectPart(t, inHead, c[0], c[1], c[2])
	}
}

func TestTypesReadAsFarAsTheyGo(t *testing.T) {
	for _, c := range [][3]string{
		{"a", "a", ""}, {"a b", "a", "b"}, {"a = b", "a", "= b"}, {"a.b.c", "dot:b(a)", ". c"}, {"a.b[c][d]", "index(dot:b(a) c)", "[ d ]"},
		{"a(b)", "a", "( b )"}, {"a{}", "a", "{ }"}, {"[]a{}", "slice(a)", "{ }"}, {"[]a + b", "slice(a)", "+ b"},
		{"*a * b", "star(a)", "* b"}, {"a | b", "a", "| b"}, {"a.(b)", "a", ". ( b )"}, {"a ...", "a", ". . ."}, {"a. .b", "a", ". . b"},
		{"a.", "a", "."},
		{"(a)(b)", "paren(a)", "( b )"}, {"map[a]b{}", "map(a b)", "{ }"}, {"func() {}", "func(list -)", "{ }"},
		{"func(a) b {}", "func(list(param(a)) b)", "{ }"}, {"struct{}{}", "struct", "{ }"}, {"interface{}{}", "interface", "{ }"},
		{"a, b", "a", ", b"}, {"a: b", "a", ": b"}, {"a)", "a", ")"}, {"[n]a]", "array(n a)", "]"}, {"a; b", "a", "; b"},
	} {
		expectPart(t, (*parseexpr.Reader).Type, c[0], c[1], c[2])
	}
	expectNoPart(t, (*parseexpr.Reader).Type, "", ";", ")", "1", `"a"`, "-a", "&a", "~a", "()", "(a", "(1)", "[", "[]", "[n]", "[a", "map",
		"map[", "map[a]", "func", "func(", "func(a", "struct", "struct{", "struct{a", "interface", "interface{", "a[", "a[]", "a[1]", "a[b",
		"*", "{", "...a", "case", "type", "return", "= a", "(a + b)")
}

func TestSigs(t *testing.T) {
	for _, c := range [][3]string{
		{"()", "func(list -)", ""}, {"() {}", "func(list -)", "{ }"}, {"() a {}", "func(list a)", "{ }"}, {"()()", "", ""},
		{"() (a) {}", "func(list paren(a))", "{ }"}, {"(a)", "func(list(param(a)) -)", ""},
		{"(a b) c.d[e] {", "func(list(param:a(b)) index(dot:d(c) e))", "{"},
		{"(a b, c d,) *e = f", "func(list(param:a(b) param:c(d)) star(e))", "= f"}, {"(a, b)\n", "func(list(param(a) param(b)) -)", ""},
		{"(a)\nb", "func(list(param(a)) -)", "b"},
		{"(a [b]c)", "func(list(param:a(array(b c))) -)", ""}, {"(a[b])", "func(list(param(index(a b))) -)", ""},
		{"() func() {}", "func(list func(list -))", "{ }"}, {"() []a{}", "func(list slice(a))", "{ }"},
		{"() struct{} {}", "func(list struct)", "{ }"}, {"(), a", "func(list -)", ", a"}, {"() a b", "func(list a)", "b"},
		{"() 1", "func(list -)", "1"},
	} {
		if c[1] == "" {
			expectNoPart(t, (*parseexpr.Reader).Sig, c[0])
			continue
		}
		expectPart(t, (*parseexpr.Reader).Sig, c[0], c[1], c[2])
		expectPart(t, (*parseexpr.Reader).Type, "func"+c[0], c[1], c[2])
	}
	expectNoPart(t, (*parseexpr.Reader).Sig, "", ";", "a", "a()", "func()", "(", ")", "(a", "(,)", "(a b, c)", "(a, b c)", "(1)",
		"() (a, b)", "() (", "() []", "[a]()", "{}", "(a;)", "(a\n)", "(...a)", "(a ...b)")
}

// One thing is read behind the other, and a Reader goes on behind what it could not read.
func TestReadsInARow(t *testing.T) {
	r := newReader(t, "a + b ; []c (d e) f := g{h} { i")
	var got []string
	add := func(n api.Node, ok bool) {
		if !ok {
			t.Error("P7.2: false")
		}
		got = append(got, told(n))
	}
	add(r.Expr(false))
	got = append(got, r.Next().Text)
	add(r.Type())
	add(r.Sig())
	got = append(got, r.Next().Text)
	add(r.Expr(false))
	got = append(got, r.Next().Text)
	add(r.Expr(true))
	if want := []string{"+(a b)", ";", "slice(c)", "func(list(param:d(e)) f)", ":=", "lit(g h)", "{", "i"}; !slices.Equal(got, want) {
		t.Errorf("P7.2: %q, not %q", got, want)
	}
	r = newReader(t, "a + ) b ; c . d")
	_, ok := r.Expr(false)
	for r.Peek().Kind != api.TSemi && r.Peek().Kind != api.TEnd {
		r.Next()
	}
	r.Next()
	if n, fine := r.Expr(false); ok || !fine || told(n) != "dot:d(c)" {
		t.Errorf("P7.2: %s, %t, behind what is wrong", told(n), fine)
	}
}

// readBlock reads a block of expressions, with semicolons between.
func readBlock(r *parseexpr.Reader) (api.Node, bool) {
	block := api.Node{Kind: api.NBlock, At: r.Peek().At}
	if r.Next().Text != "{" {
		return api.Node{}, false
	}
	for r.Peek().Text != "}" {
		n, ok := r.Expr(false)
		if !ok {
			return api.Node{}, false
		}
		block.Kids = append(block.Kids, n)
		if r.Peek().Kind == api.TSemi {
			r.Next()
		} else if r.Peek().Text != "}" {
			return api.Node{}, false
		}
	}
	r.Next()
	return block, true
}

// withBlocks reads an expression with function literals.
func withBlocks(src []byte) (api.Node, bool) {
	r, ok := parseexpr.New(src)
	if !ok {
		return api.Node{}, false
	}
	r.SetBlock(readBlock)
	n, ok := r.Expr(false)
	if r.Peek().Kind == api.TSemi {
		r.Next()
	}
	if !ok || r.Peek().Kind != api.TEnd {
		return api.Node{}, false
	}
	return n, true
}

func TestFunctionLiterals(t *testing.T) {
	for source, want := range map[string]string{
		"func() {}": "funclit(func(list -) block)", "func(a b) c { a; b }": "funclit(func(list(param:a(b)) c) block(a b))",
		"func(a) {}": "funclit(func(list(param(a)) -) block)", "func() {\n}": "funclit(func(list -) block)",
		"func() struct{} {}": "funclit(func(list struct) block)", "func() []a { b }": "funclit(func(list slice(a)) block(b))",
		"func() func() {}":         "funclit(func(list func(list -)) block)",
		"func() interface{m()} {}": "funclit(func(list interface(method:m(func(list -)))) block)",
		"func() (a) {}":            "funclit(func(list paren(a)) block)",
		"func() {}()":              "call(funclit(func(list -) block))", "func() {}(a, b...)": "call:...(funclit(func(list -) block) a b)",
		"func() {}.a[b]": "index(dot:a(funclit(func(list -) block)) b)", "-func() {}": "-(funclit(func(list -) block))",
		"*func() {}": "star(funclit(func(list -) block))", "a + func() {} * b": "+(a *(funclit(func(list -) block) b))",
		"(func() {})":                "paren(funclit(func(list -) block))",
		"f(func() {}, func(a) b {})": "call(f funclit(func(list -) block) funclit(func(list(param(a)) b) block))",
		"T{func() {}: func() {}}":    "lit(T key(funclit(func(list -) block) funclit(func(list -) block)))",
		"a[func() {}]":               "index(a funclit(func(list -) block))", "[func() { a }()]b": "array(call(funclit(func(list -) block(a))) b)",
		"func() { func() { a }; b }": "funclit(func(list -) block(funclit(func(list -) block(a)) b))",
		"func() { T{a} }":            "funclit(func(list -) block(lit(T a)))", "func() { func() }": "funclit(func(list -) block(func(list -)))",
		"func(a [func() { b[c] }()]d) {}": "funclit(func(list(param:a(array(call(funclit(func(list -) block(index(b c)))) d))) -) block)",
		"func(a [func() {}]func()) {}":    "funclit(func(list(param:a(array(funclit(func(list -) block) func(list -)))) -) block)",
		"func()":                          "func(list -)", "[]func(){}": "lit(slice(func(list -)))",
		"map[a]func() b{c: func() b {}}": "lit(map(a func(list b)) key(c funclit(func(list b) block)))",
		"[]func(){func() {}}":            "lit(slice(func(list -)) funclit(func(list -) block))",
		"func() a(func() {})":            "call(func(list a) funclit(func(list -) block))",
	} {
		n, ok := withBlocks([]byte(source))
		if !ok || told(n) != want {
			t.Errorf("P7.2: %q is read as %s, %t, not as %s", source, told(n), ok, want)
		}
		if ok {
			expectPlaces(t, source, n)
		}
	}
	for _, source := range []string{
		"func() {", "func() }", "func() { a", "func() { a b }", "func() { ) }", "func() { a + }", "func() {} {}", "func() a b {}", "func {}",
		"func(a b, c) {}", "func() (a, b) {}", "func() {}\n()", "func()\n{}", "func() { func() { }", "func() { func() { + } }",
		"x.(func() {})", "map[func() {}]a", "[]func() {} {}", "func(func() {})", "struct{a func() {}}",
	} {
		expectNone(t, withBlocks, source)
	}
}

// A block's reader is asked with the Reader itself, at the block, once for each literal and never for a type.
func TestBlockReaderIsAsked(t *testing.T) {
	for source, want := range map[string]string{
		"a": "", "func()": "", "func() a": "", "[]func() {}": "", "a { }": "", "func() {}": "7", "func() a { b }": "9",
		"f(func() {}, func() { c })": "9 20", "(func() { a }) + func() {}": "8 24",
	} {
		r := newReader(t, source)
		var asked []string
		r.SetBlock(func(given *parseexpr.Reader) (api.Node, bool) {
			if given != r || r.Peek().Text != "{" {
				t.Errorf("P7.2: in %q the block's reader is asked at %v", source, r.Peek())
			}
			asked = append(asked, strconv.Itoa(given.Peek().At))
			for given.Next().Text != "}" {
			}
			return api.Node{Kind: api.NBlock, At: 77, Text: "mine", Kids: []api.Node{{Kind: api.NBreak}}}, true
		})
		n, ok := r.Expr(false)
		if got := strings.Join(asked, " "); !ok || got != want || strings.Count(told(n), "block:mine(?)") != len(asked) {
			t.Errorf("P7.2: %q is read as %s, %t, with blocks at %q, not %q", source, told(n), ok, got, want)
		}
	}
}

func TestBlockReaders(t *testing.T) {
	read := func(set ...func(r *parseexpr.Reader) (api.Node, bool)) (api.Node, bool) {
		r := newReader(t, "func() { a }")
		for _, block := range set {
			r.SetBlock(block)
		}
		return r.Expr(false)
	}
	refuse := func(r *parseexpr.Reader) (api.Node, bool) { return api.Node{Kind: api.NBlock}, false }
	for name, set := range map[string][]func(r *parseexpr.Reader) (api.Node,
		bool){"none": nil, "nil": {nil}, "nil at last": {readBlock, nil}, "one that says false": {refuse}, "that at last": {readBlock, refuse}} {
		if n, ok := read(set...); ok || !reflect.DeepEqual(n, api.Node{}) {
			t.Errorf("P7.2: with %s as block's reader a literal is read as %s, %t", name, told(n), ok)
		}
	}
	for _, set := range [][]func(r *parseexpr.Reader) (api.Node, bool){{readBlock}, {nil, readBlock}, {refuse, readBlock}} {
		if n, ok := read(set...); !ok || told(n) != "funclit(func(list -) block(a))" {
			t.Errorf("P7.2: the reader that was set last reads %s, %t", told(n), ok)
		}
	}
	// In a head a block belongs to its function all the same, and is a head no more.
	r := newReader(t, "func() T { U{} } {")
	r.SetBlock(readBlock)
	if n, ok := r.Expr(true); !ok || told(n) != "funclit(func(list T) block(lit(U)))" || r.Next().Text != "{" {
		t.Errorf("P7.2: in a head a literal is read as %s, %t", told(n), ok)
	}
	r = newReader(t, "func() {} == T {")
	r.SetBlock(readBlock)
	if n, ok := r.Expr(true); !ok || told(n) != "==(funclit(func(list -) block) T)" || r.Next().Text != "{" {
		t.Errorf("P7.2: in a head a literal is read as %s, %t", told(n), ok)
	}
	// What a block's reader reads in vain is no fault of the literal.
	r = newReader(t, "func() { + ; } (b)")
	r.SetBlock(func(r *parseexpr.Reader) (api.Node, bool) {
		r.Next()
		if _, ok := r.Expr(true); ok {
			t.Error("P7.2: `+ ;` is read")
		}
		for r.Next().Text != "}" {
		}
		return api.Node{Kind: api.NBlock}, true
	})
	if n, ok := r.Expr(false); !ok || told(n) != "call(funclit(func(list -) block) b)" {
		t.Errorf("P7.2: %s, %t", told(n), ok)
	}
}

// panicsWith is what a call panics with, nil if it does not.
func panicsWith(call func()) (caught any) {
	defer func() { caught = recover() }()
	call()
	return nil
}

// What the block's reader panics with passes through, and the Reader goes on behind it.
func TestPanicsOfBlockReadersPass(t *testing.T) {
	type own struct{ n int }
	for _, value := range []any{"text", 7, errors.New("fault"), own{3}, struct{}{}, []int{1}} {
		for _, source := range []string{"func() { a }", "(f(x, []T{func() { a }}))", "func() { func() { a } }", "-a.b(func() { a }).c", "[func() { a }]b"} {
			r := newReader(t, source+" ; c + d")
			asked := 0
			r.SetBlock(func(r *parseexpr.Reader) (api.Node, bool) {
				asked++
				if asked < strings.Count(source, "func") {
					return readBlock(r)
				}
				panic(value)
			})
			if caught := panicsWith(func() { r.Expr(false) }); !reflect.DeepEqual(caught, value) {
				t.Errorf("a block's reader in %q panics with %v, but %v comes through", source, value, caught)
			}
			for r.Next().Text != ";" {
			}
			if n, ok := r.Expr(false); !ok || told(n) != "+(c d)" {
				t.Errorf("P7.2: behind a panic of a block's reader is read %s, %t", told(n), ok)
			}
		}
	}
	var none []int
	for name, fault := range map[string]func(){"an index": func() { none[len(none)]++ }, "nil": func() { panic(nil) }} {
		r := newReader(t, "func() {}")
		r.SetBlock(func(*parseexpr.Reader) (api.Node, bool) { fault(); return api.Node{}, true })
		if panicsWith(func() { r.Expr(false) }) == nil {
			t.Errorf("a panic of a block's reader by %s does not come through", name)
		}
	}
}

// A Reader is not led astray by panics: as deep trees are read behind them as ahead of them.
func TestReadersAfterPanics(t *testing.T) {
	deep := strings.Repeat("(", api.MaxDepth-1) + "a" + strings.Repeat(")", api.MaxDepth-1)
	var source strings.Builder
	const times = 300
	for range times {
		source.WriteString(strings.Repeat("(", 150) + "func() { } ; " + strings.Repeat("-", 1) + "(( + ; ")
	}
	r := newReader(t, source.String()+deep)
	r.SetBlock(func(*parseexpr.Reader) (api.Node, bool) { panic("fault") })
	for range times {
		if panicsWith(func() { r.Expr(false) }) != "fault" {
			t.Fatal("no panic")
		}
		for r.Next().Text != ";" {
		}
		if _, ok := r.Expr(false); ok {
			t.Fatal("P7.2: what is wrong is read")
		}
		for r.Next().Text != ";" {
		}
	}
	if _, ok := r.Expr(false); !ok {
		t.Error("P7.2: behind panics a tree is too deep that is not")
	}
}
