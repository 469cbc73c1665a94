package parsestmt_test

import (
	"slices"
	"strconv"
	"strings"
	"testing"

	"sterling/api"
	"sterling/parsestmt"
	"sterling/syntax"
)

// toldPlaces writes all nodes of a tree in their order, each with its place.
func toldPlaces(n api.Node) string {
	var all []string
	syntax.Walk(n, func(_, _ int, n api.Node) bool {
		all = append(all, told(api.Node{Kind: n.Kind, Text: n.Text})+"@"+strconv.Itoa(n.At))
		return true
	})
	return strings.Join(all, " ")
}

func TestExpressionStatements(t *testing.T) {
	for source, want := range map[string]string{
		"a": "do(a)", "f()": "do(call(f))", "f(a, b...)": "do(call:...(f a b))", "a.b()": "do(call(dot:b(a)))", "1": "do(int:1)",
		`"s"`: `do(string:"s")`, "a + b": "do(+(a b))", "-a": "do(-(a))", "*a": "do(star(a))", "(a)": "do(paren(a))",
		"a == b": "do(==(a b))",
		"a.(T)":  "do(assert(a T))", "a[i]": "do(index(a i))", "T{a}": "do(lit(T a))", "p.T{}": "do(lit(dot:T(p)))",
		"[]T{a, b}": "do(lit(slice(T) a b))",
		"[]T":       "do(slice(T))", "map[K]V": "do(map(K V))", "struct{}{}": "do(lit(struct))", "struct{}": "do(struct)",
		"interface{}(a)": "do(call(interface a))",
		"func()":         "do(func(list -))", "func() {}": "do(funclit(func(list -) block))",
		"func() {}()": "do(call(funclit(func(list -) block)))",
		"_":           "do(_)", "T[int]{}": "do(lit(index(T int)))", "a\n.b": "",
	} {
		if want == "" {
			expectNoStmt(t, source)
			continue
		}
		expectStmt(t, source, want)
	}
	expectNoStmt(t, "a b", "a 1", "1 a", "f() g()", "a.b.c{}", "(T){}", "a, b", "f(), g()", "a.(type)", "f(a.(type))", "(a.(type))", "a...",
		"...",
		"f(a", "f(a))", "a)", "(a", "a[", "a]", "T{a", "<-a", "!", "a +", "a :", "a ? b", "range a", "a range b", "type", "a type", "~a")
}

func TestDefinitions(t *testing.T) {
	for source, want := range map[string]string{
		"a := 1": "define:a(int:1)", "_ := f()": "define:_(call(f))", "a := b + c": "define:a(+(b c))", "a := T{b}": "define:a(lit(T b))",
		"a := []T": "define:a(slice(T))", "a := func() {}": "define:a(funclit(func(list -) block))",
		"a := &p.T{}": "define:a(&(lit(dot:T(p))))",
		"a := *b":     "define:a(star(b))", "a :=\nb": "define:a(b)", "a := b.(T)": "define:a(assert(b T))",
		"a := (b)": "define:a(paren(b))",
	} {
		expectStmt(t, source, want)
	}
	expectNoStmt(t, "a.b := 1", "a[i] := 1", "(a) := 1", "*a := 1", "f() := 1", "1 := 1", `"a" := 1`, "a, b := 1", "a, b := 1, 2",
		"a := 1, 2", "a :=",
		"a := ;", ":= 1", "a := b := c", "a := b = c", "a := b++", "a := range b", "a := b.(type)", "a\n:= 1", "T{} := 1", "-a := 1",
		"a + b := 1",
		"a : = 1", "a := if b {}", "a := {}", "a := var", "a := return")
}

func TestAssignments(t *testing.T) {
	places := map[string]string{
		"a": "a", "_": "_", "a.b": "dot:b(a)", "a[i]": "index(a i)", "a[i].b[j]": "index(dot:b(index(a i)) j)", "*p": "star(p)",
		"(a)":  "paren(a)",
		"*p.q": "star(dot:q(p))", "f()": "call(f)", "T{}.a": "dot:a(lit(T))", "a + b": "+(a b)", "-a": "-(a)", "1": "int:1",
		"[]T":   "slice(T)",
		"a.(T)": "assert(a T)", "func() {}": "funclit(func(list -) block)",
	}
	for _, op := range strings.Fields("= += -= *= /= %= &= |= ^= &^=") {
		for place, tree := range places {
			expectStmt(t, place+" "+op+" b", op+"("+tree+" b)")
		}
		expectStmt(t, "a"+op+"b", op+"(a b)")
		expectStmt(t, "a "+op+"\n-b", op+"(a -(b))")
		expectStmt(t, "a "+op+" T{b}", op+"(a lit(T b))")
		expectStmt(t, "a "+op+" func(c T) { c "+op+" d }", op+"(a funclit(func(list(param:c(T)) -) block("+op+"(c d))))")
		expectNoStmt(t, "a "+op, op+" b", "a "+op+" ;", "a\n"+op+" b", "a "+op+" b "+op+" c", "a "+op+" b, c", "a, b "+op+" c",
			"a, b "+op+" c, d",
			"a "+op+" b++", "a "+op+" b c", "a "+op+" range b", "a "+op+" { b }", "a "+op+" b.(type)", "a "+op+" b := c", "(a "+op+" b)",
			"f(a "+op+" b)")
	}
	expectNoStmt(t, "a <<= b", "a >>= b", "a == = b", "a + = b", "a =! = b", "a &^ = b", "a && = b", "a &&= b", "a ||= b", "a := = b",
		"a ~= b", "a != = b")
}

func TestIncDec(t *testing.T) {
	for _, op := range []string{"++", "--"} {
		for place, tree := range map[string]string{
			"a": "a", "a.b": "dot:b(a)", "a[i]": "index(a i)", "*p": "star(p)", "(a)": "paren(a)", "f()": "call(f)", "1": "int:1",
			"a + b": "+(a b)",
			"-a":    "-(a)", "func() { b }": "funclit(func(list -) block(do(b)))",
		} {
			expectStmt(t, place+op, op+"("+tree+")")
			expectStmt(t, place+" "+op, op+"("+tree+")")
		}
		expectNoStmt(t, op+"a", op, "a"+op+op, "a"+op+" b", "a\n"+op, "b = a"+op, "b := a"+op, "f(a"+op+")", "(a"+op+")", "a"+op+" = b",
			"a, b"+op,
			"return a"+op, "a"+op[:1]+" "+op[:1], "defer a"+op, "a"+op+".b", "a"+op+"()")
	}
}

func TestVars(t *testing.T) {
	types := map[string]string{
		"T": "T", "p.T": "dot:T(p)", "[]T": "slice(T)", "[n]T": "array(n T)", "*T": "star(T)", "map[K]V": "map(K V)", "G[T]": "index(G T)",
		"(T)":         "paren(T)",
		"func(a T) U": "func(list(param:a(T)) U)", "func()": "func(list -)", "struct{}": "struct",
		"struct { a T; U }": "struct(field:a(T) field(U))",
		"interface{ m() }":  "interface(method:m(func(list -)))", "[n + 1]T": "array(+(n int:1) T)",
		"[func() { x }()]T": "array(call(funclit(func(list -) block(do(x)))) T)",
	}
	values := map[string]string{"1": "int:1", "f()": "call(f)", "T{}": "lit(T)", "func() { b }": "funclit(func(list -) block(do(b)))",
		"[]T": "slice(T)"}
	for source, typ := range types {
		expectStmt(t, "var a "+source, "var:a("+typ+" -)")
		expectStmt(t, "type a "+source, "type:a(list "+typ+")")
		for value, tree := range values {
			expectBlock(t, "{ var _ "+source+" = "+value+"; const b "+source+"="+value+" }",
				"block(var:_("+typ+" "+tree+") const:b("+typ+" "+tree+"))")
		}
	}
	for value, tree := range values {
		expectStmt(t, "var a = "+value, "var:a(- "+tree+")")
		expectStmt(t, "const a = "+value, "const:a(- "+tree+")")
		expectStmt(t, "const a U = "+value, "const:a(U "+tree+")")
		expectStmt(t, "var a U =\n"+value, "var:a(U "+tree+")")
	}
	for _, word := range []string{"var", "const"} {
		expectNoStmt(t, word, word+" a", word+" = 1", word+" a =", word+" a T =", word+" a, b = 1, 2", word+" a, b T", word+" a := 1",
			word+" a = 1, 2",
			word+" (a = 1)", word+" ( a = 1 )", word+" ()", word+" a T 1", word+" a 1", word+" a\nT", word+" a\n= 1", word+" a T\n= 1",
			word+" a.b = 1",
			word+" a += 1", word+" a == 1", word+" a T = 1 2", word+" a T{}", word+" a func() {}", word+" a = b = c", word+" a = b++",
			word+" a -1",
			word+" 1 = 1", word+" \"a\" = 1", word+" a = range b", word+" a = b.(type)", word+" a T; = 1", word+" a...", word+" a = {}",
			word+" (a) = 1")
	}
	expectNoStmt(t, "const a T", "const a []T", "const\na = 1;;;b:", "var a T = var", "var a ~T", "var a T | U", "var a int = 1 int")
	expectStmt(t, "var\na\t= 1", "var:a(- int:1)")
}

// A local type has no type parameters; what stands in brackets behind its name is a length.
func TestLocalTypes(t *testing.T) {
	for source, want := range map[string]string{
		"type a b": "type:a(list b)", "type a [b]c": "type:a(list array(b c))", "type a[b] c": "type:a(list array(b c))",
		"type a[b * c] d": "type:a(list array(*(b c) d))", "type a[1] []b": "type:a(list array(int:1 slice(b)))",
		"type a (b)":                     "type:a(list paren(b))",
		"type a struct {\n\tb\n\tc d\n}": "type:a(list struct(field(b) field:c(d)))",
		"type a interface { ~b | c }":    "type:a(list interface(union(tilde(b) c)))",
		"type a b[c, d]":                 "type:a(list index(b c d))", "type a b.c[d]": "type:a(list index(dot:c(b) d))",
		"type\na b": "type:a(list b)",
		"type a a":  "type:a(list a)",
		"type _ *_": "type:_(list star(_))",
	} {
		expectStmt(t, source, want)
	}
	expectNoStmt(t, "type", "type a", "type a;b c", "type a\nb", "type a[b c] d", "type a[b any] c", "type a[b, c any] d",
		"type a[b any, c any] d",
		"type a[b interface{}] c", "type a[b any,] c", "type a[b ~c] d", "type a[b,] c", "type a[b, c] d", "type a[b []c] d", "type a[] ",
		"type a[b]",
		"type a = b", "type a := b", "type a b c", "type a 1", "type a b = c", "type (a b)", "type (\na b\n)", "type a.b c", "type 1 a",
		"type a b{}",
		"type a func() {}", "type a ~b", "type a b | c", "type a, b c", "type a b + c", "type a b()", "type a {}", "type a -b")
}

// Empty statements make no node.
func TestEmptyStatements(t *testing.T) {
	for _, source := range []string{"{}", "{ }", "{\n}", "{;}", "{;;;}", "{ ; ; }", "{\n\n\n}", "{\n;\n}", "{ /**/ }", "{ // c\n}",
		"{;\n;}", "{ /*\n*/ }"} {
		expectBlock(t, source, "block")
		expectStmt(t, source, "block")
		for head, tree := range map[string]string{
			"if a ": "if(- a block -)", "for ": "for(- - - block)", "for range a ": "range(- - a block)",
			"func() ":         "do(funclit(func(list -) block))",
			"L: for a; b; c ": "label:L(for(do(a) b do(c) block))",
		} {
			expectStmt(t, head+source, tree)
		}
	}
	for _, source := range []string{"{;a}", "{a;}", "{;a;}", "{;;a;;}", "{\n;a;\n}", "{a;\n}", "{a\n;}", "{;\na}", "{a\n\n}",
		"{\n\n;;\na\n;;\n\n}", "{a//\n}", "{a/*\n*/}"} {
		expectBlock(t, source, "block(do(a))")
	}
	for _, empty := range []string{"", ";", ";;", "\n", "\n;\n", " ; ; "} {
		expectBlock(t, "{ switch { case a:"+empty+"case b:"+empty+"x;"+empty+"default:"+empty+"} }",
			"block(switch(- - case(list(a) block) case(list(b) block(do(x))) default(list block)))")
	}
}

// goesOn tells whether the second text right behind the first is a part of that.
func goesOn(first, second string) bool {
	switch first {
	case "return":
		return slices.Contains([]string{"a", "f()", "T{}", "func() {}"}, second)
	case "break", "continue":
		return second == "a"
	case "a", "a = b", "return a":
		return second == "{}"
	}
	return false
}

// A semicolon stands between statements, behind blocks, too, and may be left out ahead of a `}` alone.
func TestSemicolons(t *testing.T) {
	kinds := map[string]string{
		"a": "do(a)", "f()": "do(call(f))", "a++": "++(a)", "a = b": "=(a b)", "a := 1": "define:a(int:1)", "var a T": "var:a(T -)",
		"{}":      "block",
		"if a {}": "if(- a block -)", "if a {} else {}": "if(- a block block)", "for {}": "for(- - - block)",
		"for range a {}": "range(- - a block)",
		"switch {}":      "switch(- -)", "switch a.(type) {}": "typeswitch(a)", "L: for {}": "label:L(for(- - - block))",
		"return":   "return(-)",
		"return a": "return(a)", "break": "break", "break L": "break:L", "continue": "continue", "defer f()": "defer(call(f))",
		"type a b":  "type:a(list b)",
		"func() {}": "do(funclit(func(list -) block))", "const a = 1": "const:a(- int:1)", "T{}": "do(lit(T))",
		"type a struct{}": "type:a(list struct)",
	}
	for first, one := range kinds {
		for second, two := range kinds {
			for _, between := range []string{";", " ; ", "\n", ";\n", "\n;", ";;", "\n\n", " // c\n", "/*\n*/", " /* c */ ; ", "\r\n"} {
				expectBlock(t, "{"+first+between+second+"}", "block("+one+" "+two+")")
			}
			if !goesOn(first, second) {
				expectNone(t, "{"+first+" "+second+"}", "{"+first+" /* c */ "+second+"}", "{ switch { case x: "+first+" case y: } }",
					"{ switch { case x: "+first+" default: } }")
			}
		}
		for _, end := range []string{"}", " }", ";}", "\n}", ";\n}", "/* c */}", "// c\n}", "\n\n}"} {
			expectBlock(t, "{"+first+end, "block("+one+")")
			expectBlock(t, "{ switch { case x: "+first+end+" }", "block(switch(- - case(list(x) block("+one+"))))")
		}
		expectNone(t, "{"+first, "{"+first+";", "{"+first+"\n", "{"+first+")", "{"+first+"]}", "{"+first+",}", "{"+first+":}",
			"{("+first+";)}")
	}
}

func TestLeaving(t *testing.T) {
	for source, want := range map[string]string{
		"return": "return(-)", "return a": "return(a)", "return f()": "return(call(f))", "return T{a}": "return(lit(T a))",
		"return -a":  "return(-(a))",
		"return (a)": "return(paren(a))", "return func() { return }": "return(funclit(func(list -) block(return(-))))",
		"return []T": "return(slice(T))",
		"return *a":  "return(star(a))", "break": "break", "break L": "break:L", "break _": "break:_", "continue": "continue",
		"continue L": "continue:L",
		"defer f()":  "defer(call(f))", "defer a": "defer(a)", "defer a.b(c)": "defer(call(dot:b(a) c))",
		"defer (f())":          "defer(paren(call(f)))",
		"defer func() { a }()": "defer(call(funclit(func(list -) block(do(a)))))", "defer\nf()": "defer(call(f))",
		"defer T{}": "defer(lit(T))",
	} {
		expectStmt(t, source, want)
	}
	for word, tree := range map[string]string{"return": "return(-)", "break": "break", "continue": "continue"} {
		expectBlock(t, "{"+word+"\na}", "block("+tree+" do(a))")
		expectBlock(t, "{"+word+";a}", "block("+tree+" do(a))")
		expectBlock(t, "{"+word+"/*\n*/a}", "block("+tree+" do(a))")
		expectBlock(t, "{"+word+"}", "block("+tree+")")
		expectBlock(t, "{"+word+"\n}", "block("+tree+")")
		expectNoStmt(t, word+" a b", word+" a, b", word+" a:", word+" := 1", word+" = 1", word+"()", word+" if a {}", word+" a = 1",
			word+" a := 1", word+" a++",
			word+" return", word+" break", word+" {}", word+" )", word+" case", word+" range a")
	}
	for _, word := range []string{"break", "continue"} {
		expectNoStmt(t, word+" 1", word+" a.b", word+" (a)", word+` "a"`, word+" a()", word+" -a", word+" a + b", word+" T{}",
			word+" L: for {}")
	}
	expectNoStmt(t, "defer", "defer;", "defer f(), g()", "defer a = 1", "defer a := 1", "defer a++", "defer {}", "defer if a {}",
		"defer defer f()",
		"defer return", "defer a b", "defer L: f()", "return a.(type)", "defer a.(type)")
}

// A label stands ahead of loops and switches and of nothing else.
func TestLabels(t *testing.T) {
	for source, want := range map[string]string{
		"for {}": "for(- - - block)", "for a {}": "for(- a - block)", "for a; b; c {}": "for(do(a) b do(c) block)",
		"for range a {}":         "range(- - a block)",
		"for a, b := range c {}": "range(a b c block)", "switch {}": "switch(- -)", "switch a {}": "switch(- a)",
		"switch a; b { case c: }": "switch(do(a) b case(list(c) block))",
		"switch a.(type) {}":      "typeswitch(a)", "switch a := b.(type) { default: }": "typeswitch:a(b default(list block))",
	} {
		for _, label := range []string{"L:", "L :", "L:\n", "L : \n\n", "L: // c\n", "L:/*\n*/"} {
			expectStmt(t, label+source, "label:L("+want+")")
		}
		expectStmt(t, "_:"+source, "label:_("+want+")")
		expectNoStmt(t, "L "+source, "L:;"+source, "L:\n;"+source, "L\n:"+source, "L: M: "+source, "(L): "+source, "a.L: "+source,
			"1: "+source, ": "+source,
			"L:: "+source, "L: {"+source+"}", "L, M: "+source, "L[a]: "+source, "L(): "+source, "-L: "+source, "L{}: "+source,
			"L:= "+source, "*L: "+source,
			`"L": `+source, "if: "+source)
	}
	expectNoStmt(t, "L:", "L: a", "L: f()", "L: a++", "L: a = b", "L: a := b", "L: {}", "L: if a {}", "L: return", "L: break",
		"L: continue", "L: defer f()",
		"L: var a T", "L: const a = 1", "L: type a b", "L: ;", "L:\n", "L: func() {}", "L: else {}", "L: case a:", "L: range a",
		"if L: for {}", "for L: for {} {}",
		"L: M", "L: L", "L: (for {})")
}

func TestBlocksInBlocks(t *testing.T) {
	expectStmt(t, "{ a; { b; {} }; c }", "block(do(a) block(do(b) block) do(c))")
	expectStmt(t, "{{{a}}}", "block(block(block(do(a))))")
	expectStmt(t, "{\n{\n}\n{\n}\n}", "block(block block)")
	expectStmt(t, "{{};{}}", "block(block block)")
	expectNoStmt(t, "{}{}", "{} {}", "{} a", "a {} b", "{}()", "{}.a", "{} = a", "{} else {}", "{ a", "{ a }}", "({})", "{}++", "{},{}",
		"{ case a: }", "{ default: }",
		"{ a; case b: }")
	for _, many := range []int{1, 100, 20000} {
		n, ok := parsestmt.Block([]byte("{" + strings.Repeat("a;", many) + "}"))
		if !ok || len(n.Kids) != many {
			t.Errorf("P8.1: of %d statements %d are read, %t", many, len(n.Kids), ok)
		}
	}
}
