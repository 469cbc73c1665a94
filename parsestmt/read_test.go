package parsestmt_test

import (
	"reflect"
	"strings"
	"testing"

	"sterling/api"
	"sterling/parseexpr"
	"sterling/parsestmt"
	"sterling/syntax"
)

func newReader(t *testing.T, source string) *parseexpr.Reader {
	t.Helper()
	r, ok := parseexpr.New([]byte(source))
	if r == nil || !ok {
		t.Fatalf("P7.2: New(%q): %t", source, ok)
	}
	return r
}

// rest is the texts of the tokens that a Reader has still ahead of it, but for the end.
func rest(r *parseexpr.Reader) string {
	var texts []string
	for r.Peek().Kind != api.TEnd {
		texts = append(texts, r.Next().Text)
	}
	return strings.Join(texts, " ")
}

// passed is a Reader that has passed over some tokens.
func passed(t *testing.T, source string, tokens int) *parseexpr.Reader {
	t.Helper()
	r := newReader(t, source)
	for range tokens {
		r.Next()
	}
	return r
}

// A block is read where the Reader stands, and no further.
func TestReadInTheMiddle(t *testing.T) {
	for _, c := range []struct {
		source     string
		ahead      int
		want, left string
	}{
		{"{}", 0, "block", "\n"}, {"{} a", 0, "block", "a \n"}, {"{ a } { b }", 0, "block(do(a))", "{ b } \n"}, {"{ a } { b }", 3,
			"block(do(b))", "\n"},
		{"func f() { a; b } ; c", 4, "block(do(a) do(b))", "; c \n"}, {"x := { {} }}", 2, "block(block)", "} \n"}, {"a\n{ b }\nc", 2,
			"block(do(b))", "\n c \n"},
		{"{ a { b } }", 2, "block(do(b))", "} \n"}, {"if a { b } else { c }", 2, "block(do(b))", "else { c } \n"}, {"{};;", 0, "block",
			"; ;"},
		{"{}()", 0, "block", "( ) \n"}, {"{}.a", 0, "block", ". a \n"}, {"{} + 1", 0, "block", "+ 1 \n"}, {") { f(T{}) } (", 1,
			"block(do(call(f lit(T))))", "("},
		{"{ a {} } b", 2, "block", "} b \n"}, {"for { x := func() { y } } z", 1, "block(define:x(funclit(func(list -) block(do(y)))))",
			"z \n"},
		{"{ switch { case a: b } } case c:", 0, "block(switch(- - case(list(a) block(do(b)))))", "case c :"},
	} {
		r := passed(t, c.source, c.ahead)
		n, ok := parsestmt.Read(r)
		if got := rest(r); !ok || told(n) != c.want || got != c.left {
			t.Errorf("P8.1: %q is read from token %d on as %s, %t, ahead of %q, not as %s ahead of %q", c.source, c.ahead, told(n), ok, got,
				c.want, c.left)
		}
		expectPlaces(t, c.source, n)
	}
}

func TestReadOfWhatIsNoBlock(t *testing.T) {
	for _, c := range []struct {
		source string
		ahead  int
	}{
		{"", 0}, {"a", 0}, {"a {}", 0}, {"{}", 1}, {"{}", 2}, {"{}", 9}, {";{}", 0}, {"\n", 0}, {"({})", 0}, {"{ a", 0}, {"{ a b }", 0},
		{"{ {} ", 0}, {"x { if }", 1}, {"T{}; a b", 1 + 2},
		{"{ x.(type) }", 0}, {"{ func() { + } }", 0}, {"{ a; ) }", 0}, {"}", 0}, {"{ f(func() { if }) }", 0},
	} {
		r := passed(t, c.source, c.ahead)
		if n, ok := parsestmt.Read(r); ok || !reflect.DeepEqual(n, api.Node{}) {
			t.Errorf("P8.1, P0.2: %q is read from token %d on as %s, %t", c.source, c.ahead, told(n), ok)
		}
		// What was passed over is not said, but there is an end.
		rest(r)
	}
}

// No Reader, and one that nothing made, have no block.
func TestReadersOfNothing(t *testing.T) {
	for _, r := range []*parseexpr.Reader{nil, {}} {
		for range 2 {
			if n, ok := parsestmt.Read(r); ok || !reflect.DeepEqual(n, api.Node{}) {
				t.Errorf("P0.1: %s, %t", told(n), ok)
			}
		}
	}
}

// One block is read behind the other, and a Reader goes on behind what was no block.
func TestReadsInARow(t *testing.T) {
	r := newReader(t, "{ a } { f(func() { b }) } + { c d } ; { e }")
	for _, want := range []string{"block(do(a))", "block(do(call(f funclit(func(list -) block(do(b))))))"} {
		if n, ok := parsestmt.Read(r); !ok || told(n) != want {
			t.Errorf("P8.1: %s, %t, not %s", told(n), ok, want)
		}
	}
	if n, ok := parsestmt.Read(r); ok {
		t.Errorf("P8.1: `+` is read as %s", told(n))
	}
	for r.Peek().Text != "{" {
		r.Next()
	}
	if n, ok := parsestmt.Read(r); ok {
		t.Errorf("P8.1: `{ c d }` is read as %s", told(n))
	}
	for r.Next().Text != ";" {
	}
	if n, ok := parsestmt.Read(r); !ok || told(n) != "block(do(e))" || r.Next().Text != "\n" {
		t.Errorf("P8.1: behind what is wrong is read %s, %t", told(n), ok)
	}
}

// Read is how the blocks of function literals are read.
func TestReadAsBlockReader(t *testing.T) {
	for source, want := range map[string]string{
		"func() {}": "funclit(func(list -) block)", "func(a T) U { return a }": "funclit(func(list(param:a(T)) U) block(return(a)))",
		"f(func() { a }, func() { b; c })":                  "call(f funclit(func(list -) block(do(a))) funclit(func(list -) block(do(b) do(c))))",
		"func() { if a { f(func() { x := T{} }) } }()":      "call(funclit(func(list -) block(if(- a block(do(call(f funclit(func(list -) block(define:x(lit(T))))))) -))))",
		"func() { func() { func() {} } }":                   "funclit(func(list -) block(do(funclit(func(list -) block(do(funclit(func(list -) block)))))))",
		"[]func(){func() { for {} }}":                       "lit(slice(func(list -)) funclit(func(list -) block(for(- - - block))))",
		"func() { switch a.(type) { default: func() {} } }": "funclit(func(list -) block(typeswitch(a default(list block(do(funclit(func(list -) block)))))))",
	} {
		for _, head := range []bool{false, true} {
			r := newReader(t, source+" ; x")
			r.SetBlock(parsestmt.Read)
			if n, ok := r.Expr(head); !ok || told(n) != want || rest(r) != "; x \n" {
				t.Errorf("P8.1: %q is read as %s, %t, not as %s", source, told(n), ok, want)
			}
		}
	}
	for _, source := range []string{"func() { a b }", "func() { func() { + } }", "func() { if }", "func() {",
		"f(func() { a }, func() { x.(type) })", "func() { case a: }"} {
		r := newReader(t, source)
		r.SetBlock(parsestmt.Read)
		if n, ok := r.Expr(false); ok {
			t.Errorf("P8.1: %q is read as %s", source, told(n))
		}
	}
}

// What a Reader was told of the blocks of function literals is not asked inside a block, and holds again behind it.
func TestReadKeepsTheBlockReader(t *testing.T) {
	const source = "{ f(func() { a }) } func() { b } ; { c d } ; func() { e }"
	mine := func(r *parseexpr.Reader) (api.Node, bool) {
		for r.Next().Text != "}" {
		}
		return api.Node{Kind: api.NBlock, Kids: []api.Node{{Kind: api.NBreak}}}, true
	}
	for name, c := range map[string]struct {
		set  []func(r *parseexpr.Reader) (api.Node, bool)
		want string
	}{
		"none": {nil, "-"}, "nil": {[]func(r *parseexpr.Reader) (api.Node, bool){nil}, "-"},
		"another": {[]func(r *parseexpr.Reader) (api.Node, bool){mine}, "funclit(func(list -) block(break))"},
		"Read":    {[]func(r *parseexpr.Reader) (api.Node, bool){parsestmt.Read}, "funclit(func(list -) block(do(NAME)))"},
	} {
		r := newReader(t, source)
		for _, read := range c.set {
			r.SetBlock(read)
		}
		if n, ok := parsestmt.Read(r); !ok || told(n) != "block(do(call(f funclit(func(list -) block(do(a))))))" {
			t.Errorf("P8.1: with %s as block's reader a block is read as %s, %t", name, told(n), ok)
		}
		n, ok := r.Expr(false)
		if want := strings.ReplaceAll(c.want, "NAME", "b"); ok != (want != "-") || told(n) != want {
			t.Errorf("P7.2: behind a block, with %s as block's reader, a literal is read as %s, %t, not as %s", name, told(n), ok, want)
		}
		for r.Next().Text != ";" {
		}
		if n, ok := parsestmt.Read(r); ok {
			t.Errorf("P8.1: `{ c d }` is read as %s", told(n))
		}
		for r.Next().Text != ";" {
		}
		n, ok = r.Expr(false)
		if want := strings.ReplaceAll(c.want, "NAME", "e"); ok != (want != "-") || told(n) != want {
			t.Errorf("P7.2: behind what is no block, with %s as block's reader, a literal is read as %s, %t, not as %s", name, told(n), ok,
				want)
		}
	}
}

func TestFunctionLiterals(t *testing.T) {
	const literal = "funclit(func(list -) block(do(x)))"
	for form, tree := range map[string]string{
		"$": "do(%)", "$()": "do(call(%))", "f := $": "define:f(%)", "f = $": "=(f %)", "$ = f": "=(% f)", "$++": "++(%)",
		"var f = $": "var:f(- %)", "var f func() = $": "var:f(func(list -) %)",
		"const f = $": "const:f(- %)", "return $": "return(%)", "defer $()": "defer(call(%))", "if $ == nil {}": "if(- ==(% nil) block -)",
		"if f := $; f {}": "if(define:f(%) f block -)",
		"if $; f {}":      "if(do(%) f block -)", "if $ {}": "if(- % block -)",
		"if a {} else if $() {}": "if(- a block if(- call(%) block -))",
		"for $ {}":               "for(- % - block)",
		"for $; $; $ {}":         "for(do(%) % do(%) block)", "for ; $ \n {}": "for(- % - block)", "for range $ {}": "range(- - % block)",
		"for a := range $() {}": "range(a - call(%) block)",
		"switch $ {}":           "switch(- %)", "switch $; $ {}": "switch(do(%) %)", "switch $ \n {}": "switch(do(%) -)",
		"switch $().(type) {}": "typeswitch(call(%))", "switch a := $.(type) {}": "typeswitch:a(%)",
		"switch { case $, $: $ }": "switch(- - case(list(% %) block(do(%))))", "L: for $() {}": "label:L(for(- call(%) - block))",
		"f($, $)": "do(call(f % %))", "type a [$()]b": "type:a(list array(call(%) b))",
		"var a [$()]b": "var:a(array(call(%) b) -)", "a[$()] = b": "=(index(a call(%)) b)", "[]T{$: $}": "do(lit(slice(T) key(% %)))",
		"func() { $ }": "do(funclit(func(list -) block(do(%))))",
	} {
		for inner, want := range map[string]string{
			"func() { x }": literal, "func() { x; }": literal, "func() {\nx\n}": literal,
			"func(a T) U { return a }":                          "funclit(func(list(param:a(T)) U) block(return(a)))",
			"func() func() { func() { x } }":                    "funclit(func(list func(list -)) block(do(" + literal + ")))",
			"func() { if x == (T{}) { return } }":               "funclit(func(list -) block(if(- ==(x paren(lit(T))) block(return(-)) -)))",
			"func() { T{} }":                                    "funclit(func(list -) block(do(lit(T))))",
			"func() { x := T{a}; if x {} }":                     "funclit(func(list -) block(define:x(lit(T a)) if(- x block -)))",
			"func() { for { switch { case T{}: func() {} } } }": "funclit(func(list -) block(for(- - - block(switch(- - case(list(lit(T)) block(do(funclit(func(list -) block)))))))))",
		} {
			expectBlock(t, "{"+strings.ReplaceAll(form, "$", inner)+"}", "block("+strings.ReplaceAll(tree, "%", want)+")")
		}
		for _, wrong := range []string{"func() { x y }", "func() { if }", "func() { case x: }", "func() { x", "func() { ) }",
			"func() { func() { + } }", "func() { x.(type) }", "func() { if T{} == x {} }"} {
			expectNone(t, "{"+strings.ReplaceAll(form, "$", wrong)+"}")
		}
	}
	n, ok := parsestmt.Block([]byte("{" + strings.Repeat("f := func() { x }\n", 5000) + "}"))
	if !ok || len(n.Kids) != 5000 || syntax.Count(n) != 1+8*5000 {
		t.Errorf("P8.1: of 5000 function literals %d are read, in %d nodes, %t", len(n.Kids), syntax.Count(n), ok)
	}
}
