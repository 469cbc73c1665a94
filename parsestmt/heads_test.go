package parsestmt_test

import (
	"strings"
	"testing"
)

// simples is simple statements as they may stand in a head, and their trees.
func simples() map[string]string {
	return map[string]string{
		"s": "do(s)", "f()": "do(call(f))", "s := 1": "define:s(int:1)", "_ := f(x)": "define:_(call(f x))", "s = t": "=(s t)",
		"s += 1":  "+=(s int:1)",
		"s &^= t": "&^=(s t)", "s++": "++(s)", "s.t[i]--": "--(index(dot:t(s) i))", "*p = -1": "=(star(p) -(int:1))",
		"s == t":     "do(==(s t))",
		"s := (T{})": "define:s(paren(lit(T)))", "s = []T{x}": "=(s lit(slice(T) x))", "f(T{})": "do(call(f lit(T)))",
		"s := func() T { return T{} }": "define:s(funclit(func(list T) block(return(lit(T)))))",
		"func() {}()":                  "do(call(funclit(func(list -) block)))",
		"s := []T":                     "define:s(slice(T))", "s := t\t": "define:s(t)", "[]T": "do(slice(T))",
		"s := func()":   "define:s(func(list -))",
		"s := struct{}": "define:s(struct)",
	}
}

// conditions is expressions as they may stand in a head right ahead of a brace, and their trees.
func conditions() map[string]string {
	return map[string]string{
		"a": "a", "a.b": "dot:b(a)", "a == b": "==(a b)", "f()": "call(f)", "!a": "!(a)", "*p": "star(p)", "a[i]": "index(a i)",
		"(a)": "paren(a)", "1": "int:1",
		"a && b || c": "||(&&(a b) c)", "a.(T)": "assert(a T)", "(T{})": "paren(lit(T))", "(a == T{})": "paren(==(a lit(T)))",
		"f(T{x})": "call(f lit(T x))",
		"a[T{}]":  "index(a lit(T))", "[]T{U{}}": "lit(slice(T) lit(U))", "a == []T{}": "==(a lit(slice(T)))",
		"map[K]V{k: T{}}": "lit(map(K V) key(k lit(T)))",
		"struct{ a T }{}": "lit(struct(field:a(T)))", "[2]T{}": "lit(array(int:2 T))", "(T{}) == a": "==(paren(lit(T)) a)",
		"f(a)[T{}.b].c":              "dot:c(index(call(f a) dot:b(lit(T))))",
		"interface{ m() }":           "interface(method:m(func(list -)))",
		"func() bool { return a }()": "call(funclit(func(list bool) block(return(a))))",
		"f(func() { x = T{} })":      "call(f funclit(func(list -) block(=(x lit(T)))))",
		"func() {} == a":             "==(funclit(func(list -) block) a)",
		`"s"`:                        `string:"s"`,
		"-a":                         "-(a)", "[]func(){}": "lit(slice(func(list -)))", "func() { if a { } }": "funclit(func(list -) block(if(- a block -)))",
		"T[U]":   "index(T U)",
		"&[]T{}": "&(lit(slice(T)))", "x.(struct{ a T })": "assert(x struct(field:a(T)))", "_": "_", "a.b.c": "dot:c(dot:b(a))",
	}
}

func TestIfs(t *testing.T) {
	for condition, tree := range conditions() {
		expectStmt(t, "if "+condition+" {}", "if(- "+tree+" block -)")
		expectStmt(t, "if ; "+condition+" { x }", "if(- "+tree+" block(do(x)) -)")
		expectStmt(t, "if\n"+condition+" {} else { x }", "if(- "+tree+" block block(do(x)))")
		expectStmt(t, "if a {} else if "+condition+" {}", "if(- a block if(- "+tree+" block -))")
		for simple, statement := range simples() {
			expectBlock(t, "{ if "+simple+"; "+condition+" {} }", "block(if("+statement+" "+tree+" block -))")
			expectBlock(t, "{ if "+simple+"\n"+condition+" {} else if "+simple+"; a {} else {} }",
				"block(if("+statement+" "+tree+" block if("+statement+" a block block)))")
		}
		expectNoStmt(t, "if "+condition, "if "+condition+"\n{}", "if "+condition+"; {}", "if "+condition+" ; ; {}",
			"if ; "+condition+"\n{}", "if ;; "+condition+" {}",
			"if s; "+condition+"; t {}", "if s; "+condition+"\n{}", "if "+condition+" a", "if "+condition+" { else {} }",
			"if "+condition+" {} else", "else "+condition+" {}")
	}
	expectStmt(t, "if a { b }", "if(- a block(do(b)) -)")
	expectStmt(t, "if a {\nb\n} else {\nc\n}", "if(- a block(do(b)) block(do(c)))")
	expectStmt(t, "if a {} else if b {} else if c {} else if d {} else {}", "if(- a block if(- b block if(- c block if(- d block block))))")
	expectStmt(t, "if a { if b {} else {} } else { if c {} }", "if(- a block(if(- b block block)) block(if(- c block -)))")
	expectStmt(t, "if a {} else\nif b {}", "if(- a block if(- b block -))")
	expectStmt(t, "if a {} else\n{}", "if(- a block block)")
	expectStmt(t, "if (a) {}", "if(- paren(a) block -)")
	expectNoStmt(t, "if", "if {}", "if ; {}", "if a", "if a;", "if a b {}", "if a, b {}", "if a := 1 {}", "if a = 1 {}", "if a += 1 {}",
		"if a++ {}", "if ; a := 1 {}",
		"if ; a = 1 {}", "if ; a++ {}", "if a; b = c {}", "if a; b := c {}", "if a; b++ {}", "if var a = 1; a {}", "if a {} else",
		"if a {} else b", "if a {} else ;",
		"if a {} else b {}", "if a {} else for {}", "if a {} else switch {}", "if a {} else return", "if a {}\nelse {}", "if a {}; else {}",
		"if a {} else {} else {}",
		"if a {} else else {}", "if a {} else {} b", "if a {} b", "if a {} {}", "if a else {}", "if a { } } else {}", "if (a {})",
		"if (a; b) {}", "if if a {} {}", "if for {} {}",
		"if range a {}", "if a := range b {}", "if a.(type) {}", "if a := b.(type) {}", "if a := b.(type); c {}", "if a.(type); b {}",
		"if {} {}", "if { a } {}", "if return {}",
		"if L: a {}", "if a: {}", "if a; b; c {}", "if a...", "if a := {}", "if a = {}", "if := a {}", "if a: b {}", "if a; if b {} {}",
		"if a {} else if {}", "if a {} else if ; {}",
		"if a {} else if b", "if a {} else if b := 1 {}", "if a {} else if b\n{}", "if a { b", "if a }", "if ) {}", "if a)", "if []T {}",
		"if func() {}", "if struct{} {}")
}

// In a head the braces behind a name are its block.
func TestBracesInHeads(t *testing.T) {
	for _, literal := range []string{"T{}", "p.T{}", "T[U]{}", "p.T[U, V]{}", "T{a}", "T{a: b}"} {
		for _, form := range []string{"$", "a == $", "$ == a", "-$", "&$", "*$", "a && !$", "$.a", "$[i]", "$()", "$.a()", "$.(U)",
			"a + b * $"} {
			condition := strings.ReplaceAll(form, "$", literal)
			for _, head := range []string{"if $ {}", "if s; $ {}", "if $; a {} else {}", "if s := $; a {}", "if s = $; a {}", "for $ {}",
				"for $; ; a++ {}", "for ; $; {}", "for ; ; $ {}",
				"for s := $; ; {}", "for s = $; ; {}", "for ;; s = $ {}", "for range $ {}", "for a := range $ {}", "for a, b := range $ {}",
				"switch $; a { default: }", "switch s; $ {}", "switch s := $; a {}",
				"switch $.(type) {}", "switch a := $.(type) {}"} {
				expectNoStmt(t, strings.ReplaceAll(head, "$", condition))
			}
			for _, around := range []string{"($)", "f($)", "a[$]", "[]T{$}", "f(x, $...)", "map[K]V{$: $}", "struct{ a U }{$}",
				"func() { f($) }", "x.([($).n]T)"} {
				inside := strings.ReplaceAll(around, "$", condition)
				for _, head := range []string{"if $ {}", "if s = $; a {}", "for $ {}", "for $; $; $ {}", "for a := range $ {}",
					"switch $ {}", "switch s := $; a {}", "switch $.(type) {}"} {
					expectRead(t, "{"+strings.ReplaceAll(head, "$", inside)+"}")
				}
			}
			// What stands in a block or a clause is in no head.
			for _, inner := range []string{"if a { $ }", "for { $ }", "for range a { b = $ }", "switch a { case $: $ }",
				"switch a.(type) { case $: f($) }",
				"if func() { $ } == a {}", "for func() { x := $ } {}", "L: switch { default: $ }", "defer func() { $ }()"} {
				expectRead(t, "{"+strings.ReplaceAll(inner, "$", condition)+"}")
			}
		}
		name, _, _ := strings.Cut(literal, "{")
		block := strings.TrimPrefix(literal, name)
		for _, head := range []string{"if $", "if s; $", "for $", "for ;; $", "for range $", "switch $", "switch s; $"} {
			source := "{" + strings.ReplaceAll(head, "$", name+" "+block) + "}"
			if block == "{}" || block == "{a}" && !strings.Contains(head, "switch") {
				expectRead(t, source)
			} else {
				expectNone(t, source)
			}
		}
	}
	expectBlock(t, "{ if T { a } }", "block(if(- T block(do(a)) -))")
	expectBlock(t, "{ for p.T { a } }", "block(for(- dot:T(p) - block(do(a))))")
	expectBlock(t, "{ for range T[U] { a } }", "block(range(- - index(T U) block(do(a))))")
	expectBlock(t, "{ switch T { case a: } }", "block(switch(- T case(list(a) block)))")
	expectBlock(t, "{ for ; ; a = T { b } }", "block(for(- - =(a T) block(do(b))))")
	expectBlock(t, "{ if a == T {} ; {} }", "block(if(- ==(a T) block -) block)")
	expectBlock(t, "{ switch a { case T{b}: c } }", "block(switch(- a case(list(lit(T b)) block(do(c)))))")
}

func TestFors(t *testing.T) {
	expectStmt(t, "for {}", "for(- - - block)")
	expectStmt(t, "for { a; b }", "for(- - - block(do(a) do(b)))")
	expectStmt(t, "for ;; {}", "for(- - - block)")
	expectStmt(t, "for ; ; \n {}", "for(- - - block)")
	expectStmt(t, "for\n;\n;\n{ a }", "for(- - - block(do(a)))")
	for condition, tree := range conditions() {
		expectStmt(t, "for "+condition+" { x }", "for(- "+tree+" - block(do(x)))")
		expectStmt(t, "for\n"+condition+" {}", "for(- "+tree+" - block)")
		expectStmt(t, "for ; "+condition+"; {}", "for(- "+tree+" - block)")
		expectStmt(t, "for ; "+condition+"\n{}", "for(- "+tree+" - block)")
		expectStmt(t, "for s; "+condition+"; t { x }", "for(do(s) "+tree+" do(t) block(do(x)))")
		expectStmt(t, "for ; ; "+condition+" {}", "for(- - do("+tree+") block)")
		expectNoStmt(t, "for "+condition, "for "+condition+"\n{}", "for "+condition+"; {}", "for ; "+condition+" {}",
			"for s; "+condition+" {}", "for "+condition+"; s {}",
			"for s; "+condition+"; t\n{}", "for ;; "+condition+"\n{}", "for ; "+condition+"; ; {}", "for ;; "+condition+"; {}",
			"for "+condition+" a {}", "for s, "+condition+" {}")
	}
	for simple, statement := range simples() {
		expectStmt(t, "for "+simple+"; ; {}", "for("+statement+" - - block)")
		expectStmt(t, "for "+simple+"\n; {}", "for("+statement+" - - block)")
		expectBlock(t, "{ for "+simple+"; a; "+"{ x } }", "block(for("+statement+" a - block(do(x))))")
		expectBlock(t, "{ for "+simple+"\na\n{ x } }", "block(for("+statement+" a - block(do(x))))")
		if statement[:2] != "do" {
			expectNoStmt(t, "for "+simple+" {}", "for ; "+simple+"; {}", "for s; "+simple+"; t {}")
		}
		if strings.HasSuffix(simple, "[]T") || strings.HasSuffix(simple, "func()") || strings.HasSuffix(simple, "struct{}") {
			expectNoStmt(t, "for ; ; "+simple+" {}")
			continue
		}
		expectStmt(t, "for ; ; "+simple+" {}", "for(- - "+statement+" block)")
		expectBlock(t, "{ for "+simple+"; a; "+simple+" { x } }", "block(for("+statement+" a "+statement+" block(do(x))))")
		expectNone(t, "{ for "+simple+"; a; "+simple+"\n{ x } }", "{ for "+simple+"; a; "+simple+"; { x } }",
			"{ for "+simple+"; a; "+simple+" }")
	}
	expectNoStmt(t, "for", "for a", "for ;", "for ;;", "for ; {}", "for a; {}", "for a; b {}", "for ;;; {}", "for a; b; c; d {}",
		"for a, b {}", "for a, b; ; {}", "for a b {}",
		"for var i = 0; ; {}", "for if a {} {}", "for for {} {}", "for L: a {}", "for a: {}", "for a := 1 {}", "for a = 1 {}", "for a++ {}",
		"for a.(type) {}", "for a := b.(type) {}",
		"for a := b.(type); ; {}", "for s := 1 b; c {}", "for s = 1 b; c {}", "for s++ b; c {}", "for s 1; c {}", "for {} else {}",
		"for {} a", "for {", "for }", "for (a; b; c) {}", "for (;;) {}", "for {}; }", "for a\n{}", "for a; b; c\n{}", "for a; return; b {}",
		"for a...  {}", "for := 1; ; {}", "for []T {}", "for func() {}", "for a; b;\n", "for a := 1, b; ; {}", "for a, b := 1, 2; ; {}",
		"for a, b = 1, 2; ; {}")
}

// The last of three parts may be left out, the semicolon ahead of it not, unless a line ends there.
func TestForsWithoutTheLastPart(t *testing.T) {
	for source, want := range map[string]string{
		"for a; b; c {}": "for(do(a) b do(c) block)", "for a; b; {}": "for(do(a) b - block)", "for a; b\n{}": "for(do(a) b - block)",
		"for a\nb\n{}":  "for(do(a) b - block)",
		"for a; ; c {}": "for(do(a) - do(c) block)", "for a; ; {}": "for(do(a) - - block)", "for a;; {}": "for(do(a) - - block)",
		"for ; b; c {}": "for(- b do(c) block)",
		"for ; b; {}":   "for(- b - block)", "for ; b\n{}": "for(- b - block)", "for ; ; c {}": "for(- - do(c) block)",
		"for ; ; {}": "for(- - - block)", "for ;;{}": "for(- - - block)",
		"for a\n\n; {}": "for(do(a) - - block)", "for a; b /*\n*/ {}": "for(do(a) b - block)", "for a; b // c\n{}": "for(do(a) b - block)",
		"for a;\nb;\nc {}": "for(do(a) b do(c) block)",
		"for a;\n;\n{}":    "for(do(a) - - block)",
	} {
		expectStmt(t, source, want)
	}
}

func TestRanges(t *testing.T) {
	for names, kids := range map[string]string{"": "- -", "k := ": "k -", "_ := ": "_ -", "k, v := ": "k v", "_, v := ": "_ v",
		"k, _ := ": "k _", "_, _ := ": "_ _", "k,\nv :=\n": "k v"} {
		for operand, tree := range conditions() {
			expectBlock(t, "{ for "+names+"range "+operand+" { x } }", "block(range("+kids+" "+tree+" block(do(x))))")
			expectNone(t, "{ for "+names+"range "+operand+"\n{} }", "{ for "+names+"range "+operand+"; {} }",
				"{ for "+names+"range "+operand+" }",
				"{ for "+names+"range "+operand+"; a; b {} }", "{ for ; "+names+"range "+operand+" {} }",
				"{ for ;; "+names+"range "+operand+" {} }",
				"{ if "+names+"range "+operand+" {} }", "{ switch "+names+"range "+operand+" {} }", "{ "+names+"range "+operand+" }")
		}
		expectStmt(t, "for "+names+"range a {}", "range("+kids+" a block)")
		expectStmt(t, "for "+names+"range\na { b; c }", "range("+kids+" a block(do(b) do(c)))")
		expectStmt(t, "L: for "+names+"range a { break L }", "label:L(range("+kids+" a block(break:L)))")
		expectNoStmt(t, "for "+names+"range {}", "for "+names+"range a", "for "+names+"range a, b {}", "for "+names+"range range a {}",
			"for "+names+"range a b {}",
			"for "+names+"range a := b {}", "for "+names+"range a = b {}", "for "+names+"range a++ {}", "for "+names+"range (a {})",
			"for "+names+"(range a) {}",
			"for "+names+"range a.(type) {}", "for "+names+"range []T", "for "+names+"range", "for "+names+"range ; {}",
			"for "+names+"range {} {}")
	}
	expectNoStmt(t, "for k range a {}", "for k, v range a {}", "for k = range a {}", "for k, v = range a {}", "for k, v, w := range a {}",
		"for a.b := range c {}", "for (k) := range a {}",
		"for k, := range a {}", "for , v := range a {}", "for := range a {}", "for k, a.b := range c {}", "for k, (v) := range a {}",
		"for a[i], v := range b {}", "for *k := range a {}",
		"for k, *v := range a {}", "for 1 := range a {}", "for k, 1 := range a {}", "for k += range a {}", "for k v := range a {}",
		"for k; v := range a {}", "for k, v := a {}",
		"for k, v := a; ; {}", "for k, v {}", "for k, v; ; {}", "for k, v := {}", "for k,, v := range a {}", "for k, v: range a {}",
		"for k\n:= range a {}", "for k\n, v := range a {}",
		"for f(), v := range a {}", "for (k, v) := range a {}", "for k := range a; ; {}", "for k ++ range a {}", "for var k := range a {}",
		"for k, v :=\nrange", "for k, range a {}",
		"for range := range a {}")
}

func TestSwitches(t *testing.T) {
	expectStmt(t, "switch {}", "switch(- -)")
	expectStmt(t, "switch ; {}", "switch(- -)")
	expectStmt(t, "switch\n{}", "switch(- -)")
	expectStmt(t, "switch ;\n{}", "switch(- -)")
	expectStmt(t, "switch {\n}", "switch(- -)")
	for condition, tree := range conditions() {
		expectStmt(t, "switch "+condition+" {}", "switch(- "+tree+")")
		expectStmt(t, "switch ; "+condition+" {}", "switch(- "+tree+")")
		expectStmt(t, "switch "+condition+"; {}", "switch(do("+tree+") -)")
		expectStmt(t, "switch "+condition+"\n{}", "switch(do("+tree+") -)")
		expectStmt(t, "switch\n"+condition+" { case a: }", "switch(- "+tree+" case(list(a) block))")
		expectNoStmt(t, "switch "+condition, "switch "+condition+"\n;{}", "switch "+condition+";; {}", "switch ; "+condition+"\n{}",
			"switch ; "+condition+"; {}", "switch ;; "+condition+" {}",
			"switch a; "+condition+"; {}", "switch a; "+condition+"\n{}", "switch "+condition+" a {}", "switch "+condition+", a {}",
			"switch a, "+condition+" {}")
	}
	for simple, statement := range simples() {
		expectStmt(t, "switch "+simple+"; {}", "switch("+statement+" -)")
		expectStmt(t, "switch "+simple+"\n{}", "switch("+statement+" -)")
		expectBlock(t, "{ switch "+simple+"; a {} }", "block(switch("+statement+" a))")
		expectBlock(t, "{ switch "+simple+"\na { default: x } }", "block(switch("+statement+" a default(list block(do(x)))))")
		if statement[:2] != "do" {
			expectNoStmt(t, "switch "+simple+" {}", "switch ; "+simple+" {}", "switch a; "+simple+" {}")
		}
	}
	expectNoStmt(t, "switch", "switch a", "switch ;", "switch a;", "switch a b {}", "switch a, b {}", "switch a := 1 {}", "switch a = 1 {}",
		"switch a++ {}", "switch ; a := 1 {}", "switch ;; {}",
		"switch a; b; c {}", "switch a;\n;{}", "switch {} {}", "switch {", "switch }", "switch { a }", "switch { a() }", "switch { ; }",
		"switch { ; case a: }", "switch { {} }",
		"switch { return }", "switch { if a {} }", "switch { else: }", "switch var a = 1; a {}", "switch if a {} {}", "switch L: a {}",
		"switch a: {}", "switch (a; b) {}", "switch range a {}",
		"switch a := range b {}", "switch {} else {}", "switch {} a", "switch a...", "switch []T { case a: }", "switch func() { case a: }",
		"switch { 1: }", "switch { a: }")
}

func TestCases(t *testing.T) {
	lists := map[string]string{
		"a": "a", "a, b": "a b", "1, 2, 3": "int:1 int:2 int:3", "f(), -x": "call(f) -(x)", "T{}": "lit(T)", "a == b": "==(a b)",
		"*T, []T, map[K]V": "star(T) slice(T) map(K V)",
		"func()":           "func(list -)", "func() {}": "funclit(func(list -) block)", "func(a T) U, nil": "func(list(param:a(T)) U) nil",
		"struct{}, interface{ m() }": "struct interface(method:m(func(list -)))",
		"(T), (a)":                   "paren(T) paren(a)", "a, T{b}": "a lit(T b)", "a,\nb": "a b", `"s", .5`: `string:"s" float:.5`,
		"G[T], p.T": "index(G T) dot:T(p)", "[]T{a: b}": "lit(slice(T) key(a b))",
		"func() { switch { case c: } }": "funclit(func(list -) block(switch(- - case(list(c) block))))",
	}
	for list, tree := range lists {
		for head, start := range map[string]string{"switch ": "switch(- - ", "switch a ": "switch(- a ", "switch a; b ": "switch(do(a) b ",
			"switch a.(type) ": "typeswitch(a ", "switch x := a.(type) ": "typeswitch:x(a "} {
			expectStmt(t, head+"{ case "+list+": }", start+"case(list("+tree+") block))")
			expectBlock(t, "{"+head+"{ case "+list+": x; y; case b: default: z } }",
				"block("+start+"case(list("+tree+") block(do(x) do(y))) case(list(b) block) default(list block(do(z)))))")
			expectBlock(t, "{"+head+"{\ncase a:\nx\ncase "+list+":\ny\n} }",
				"block("+start+"case(list(a) block(do(x))) case(list("+tree+") block(do(y)))))")
			expectBlock(t, "{"+head+"{ default: case "+list+":; default: } }",
				"block("+start+"default(list block) case(list("+tree+") block) default(list block)))")
			expectNone(t, "{"+head+"{ case "+list+", : } }", "{"+head+"{ case "+list+" } }", "{"+head+"{ case "+list+"; } }",
				"{"+head+"{ case "+list+"\n: } }", "{"+head+"{ case , "+list+": } }",
				"{"+head+"{ case "+list+",\n: } }", "{"+head+"{ case "+list+",, a: } }", "{"+head+"{ case ("+list+",): } }",
				"{"+head+"{ case "+list+" 1: } }", "{"+head+"{ default "+list+": } }",
				"{"+head+"{ case "+list+":: } }", "{"+head+"{ case "+list+": x case b: } }", "{"+head+"{ case "+list+": {} default: } }",
				"{"+head+"{ case "+list+": }", "{"+head+"{ "+list+": } }",
				"{"+head+"{ case "+list+" := 1: } }", "{"+head+"{ case "+list+" = 1: } }", "{"+head+"{ case "+list+"++: } }",
				"{"+head+"( case "+list+": ) }")
		}
	}
	expectNoStmt(t, "switch { case: }", "switch { case : a }", "switch { default a: }", "switch { default, a: }", "switch { default }",
		"switch { default; }", "switch { case a: b c }",
		"switch { case a }", "switch { case range a: }", "switch { case a.(type): }", "switch { case a...: }", "switch { case a := b: }",
		"switch { case if a {}: }", "switch { case ~T: }",
		"switch { case T | ~U: }", "switch { case {}: }", "switch { case a: case }", "switch { case a: default }",
		"switch { case return: }", "switch { case case: }")
	expectNone(t, "{ case a: }", "{ default: }", "{ if a { case b: } }", "{ for { default: } }", "{ switch { case a: { case b: } } }",
		"{ f(func() { case a: }) }")
	expectStmt(t, "switch { case T | U: }", "switch(- - case(list(|(T U)) block))")
	expectStmt(t, "switch { case a: L: for {} }", "switch(- - case(list(a) block(label:L(for(- - - block)))))")
	expectStmt(t, "switch { case a: switch { case b: c }; d }",
		"switch(- - case(list(a) block(switch(- - case(list(b) block(do(c)))) do(d))))")
	expectStmt(t, "switch { case a: {}; case b: }", "switch(- - case(list(a) block(block)) case(list(b) block))")
}

func TestTypeSwitches(t *testing.T) {
	for operand, tree := range map[string]string{
		"x": "x", "x.y": "dot:y(x)", "x.y.z": "dot:z(dot:y(x))", "f()": "call(f)", "f(a, b...)": "call:...(f a b)", "x[i]": "index(x i)",
		"x.(T)": "assert(x T)", "(x)": "paren(x)",
		"(-x)": "paren(-(x))", "(*x)": "paren(star(x))", "(a + b)": "paren(+(a b))", "(T{})": "paren(lit(T))", "[]T{}": "lit(slice(T))",
		"[]T(x)": "call(slice(T) x)", "1": "int:1",
		`"s"`: `string:"s"`, "func() T { return a }()": "call(funclit(func(list T) block(return(a))))",
		"func() {}": "funclit(func(list -) block)", "_": "_", "[]T": "slice(T)",
		"interface{}": "interface", "interface{}(x)": "call(interface x)",
		"x.(interface{ m() })": "assert(x interface(method:m(func(list -))))", "struct{}{}": "lit(struct)", "((x))": "paren(paren(x))",
		"f(T{})[U{}]": "index(call(f lit(T)) lit(U))", "f(-x)": "call(f -(x))", "x[a + b]": "index(x +(a b))", "map[K]V{}": "lit(map(K V))",
		"struct{}": "struct",
	} {
		expectStmt(t, "switch "+operand+" .(type) {}", "typeswitch("+tree+")")
		expectStmt(t, "switch y := "+operand+" . ( type ) {}", "typeswitch:y("+tree+")")
		expectStmt(t, "switch _ := "+operand+" .(type) { case T: x; default: }",
			"typeswitch:_("+tree+" case(list(T) block(do(x))) default(list block))")
		expectStmt(t, "L: switch "+operand+" .(\ntype) { case nil: }", "label:L(typeswitch("+tree+" case(list(nil) block)))")
		for _, sign := range []string{"-", "+", "!", "^", "&", "*", "a + ", "a == ", "a * ", "a && ", "*-", "a.b * -"} {
			expectNoStmt(t, "switch "+sign+operand+" .(type) {}", "switch y := "+sign+operand+" .(type) {}")
		}
		whole := operand + " .(type)"
		expectNone(t, "{ switch "+whole+" }", "{ switch "+whole+"\n{} }", "{ switch "+whole+"; {} }", "{ switch ; "+whole+" {} }",
			"{ switch a; "+whole+" {} }", "{ switch a := 1; y := "+whole+" {} }",
			"{ switch ; y := "+whole+" {} }", "{ switch "+whole+"; a {} }", "{ switch y := "+whole+"; a {} }",
			"{ switch y = "+whole+" {} }", "{ switch y += "+whole+" {} }", "{ switch "+whole+" == T {} }",
			"{ switch ("+whole+") {} }", "{ switch "+whole+".a {} }", "{ switch "+whole+"() {} }", "{ switch "+whole+"[i] {} }",
			"{ switch "+whole+"++ {} }", "{ switch y, z := "+whole+" {} }",
			"{ switch y.z := "+whole+" {} }", "{ switch (y) := "+whole+" {} }", "{ switch *y := "+whole+" {} }",
			"{ switch 1 := "+whole+" {} }", "{ switch := "+whole+" {} }", "{ switch var y = "+whole+" {} }",
			"{ if "+whole+" {} }", "{ for "+whole+" {} }", "{ for range "+whole+" {} }", "{ "+whole+" }", "{ y := "+whole+" }",
			"{ return "+whole+" }", "{ defer "+whole+" }",
			"{ switch f("+whole+") {} }", "{ switch { case "+whole+": } }", "{ var y = "+whole+" }", "{ switch "+whole+" {} else {} }",
			"{ switch "+whole+" { x } }", "{ switch y: "+whole+" {} }")
	}
	expectNoStmt(t, "switch x.(type {}", "switch x.type {}", "switch x(type) {}", "switch x..(type) {}", "switch x.()(type) {}",
		"switch .(type) {}", "switch (type) {}", "switch type {}", "switch x.(T).type {}",
		"switch x.(type, T) {}", "switch x.(type)(type) {}", "switch x.(type).(type) {}", "switch x.(T).(type).(U) {}", "switch x. {}",
		"switch x... {}", "switch x.( {}", "switch x++ .(type) {}",
		"switch y := .(type) {}", "switch T{}.(type) {}", "switch x.(types) { case T }", "switch a < b.(type) {}", "switch x\n.(type) {}",
		"switch x.[type] {}", "switch x.{type} {}", "switch x.((type)) {}",
		"switch x.(*type) {}", "switch x = y.(type) {}", "switch x-- .(type) {}")
	expectStmt(t, "switch x.(types) {}", "switch(- assert(x types))")
}
