package parsestmt_test

import (
	"reflect"
	"strings"
	"testing"

	"sterling/api"
	"sterling/parsestmt"
	"sterling/scan"
	"sterling/syntax"
)

// kindName is the word by which told names a kind; names, operators and clauses are told by their text alone.
func kindName(kind int) string {
	names := map[int]string{
		api.NDot: "dot", api.NIndex: "index", api.NCall: "call", api.NParen: "paren", api.NInt: "int", api.NFloat: "float",
		api.NString: "string", api.NLit: "lit", api.NKey: "key", api.NFuncLit: "funclit", api.NAssert: "assert", api.NArray: "array",
		api.NSlice: "slice", api.NStar: "star", api.NMap: "map", api.NFuncType: "func", api.NStruct: "struct", api.NField: "field",
		api.NInterface: "interface", api.NMethod: "method", api.NUnion: "union", api.NTilde: "tilde", api.NList: "list",
		api.NParam: "param", api.NName: "", api.NUnary: "", api.NBinary: "", api.NBlock: "block", api.NVar: "var", api.NConst: "const",
		api.NType: "type", api.NDefine: "define", api.NAssign: "", api.NIncDec: "", api.NExprStmt: "do", api.NDefer: "defer",
		api.NIf: "if", api.NFor: "for", api.NRange: "range", api.NSwitch: "switch", api.NCase: "", api.NTypeSwitch: "typeswitch",
		api.NReturn: "return", api.NBreak: "break", api.NContinue: "continue", api.NLabel: "label",
	}
	if name, ok := names[kind]; ok {
		return name
	}
	return "?"
}

// told writes a tree: a kind, a colon and the text, the kids in brackets; `-` is an absent one.
func told(n api.Node) string {
	if n.Kind == api.NNone {
		return "-"
	}
	s := kindName(n.Kind)
	if n.Text != "" && s != "" {
		s += ":"
	}
	s += n.Text
	if len(n.Kids) == 0 {
		return s
	}
	var kids []string
	for _, kid := range n.Kids {
		kids = append(kids, told(kid))
	}
	return s + "(" + strings.Join(kids, " ") + ")"
}

// expectBlock asks for the tree of a block as told, in place, and for the same of its text.
func expectBlock(t *testing.T, source, want string) {
	t.Helper()
	n, ok := parsestmt.Block([]byte(source))
	if !ok || told(n) != want {
		t.Errorf("P8.1: %q is read as %s, %t, not as %s", source, told(n), ok, want)
		return
	}
	expectPlaces(t, source, n)
	expectBack(t, n)
}

// expectBack asks that the text of a tree that was read is read as the same tree.
func expectBack(t *testing.T, n api.Node) {
	t.Helper()
	text := syntax.Print(n)
	if again, ok := parsestmt.Block([]byte(text)); !ok || !syntax.Eq(n, again) {
		t.Errorf("P6.2: Print(%s) is %q, which is read as %s, %t", told(n), text, told(again), ok)
	}
}

// expectNone asks for a zero node and false.
func expectNone(t *testing.T, sources ...string) {
	t.Helper()
	for _, source := range sources {
		if n, ok := parsestmt.Block([]byte(source)); ok || !reflect.DeepEqual(n, api.Node{}) {
			t.Errorf("P8.1, P0.2: %.300q is read as %.300s, %t", source, told(n), ok)
		}
	}
}

// around is the places where a statement may stand, and the trees there.
func around() map[string]string {
	return map[string]string{
		"{$}": "block(%)", "{ $ ; }": "block(%)", "{\n$\n}": "block(%)", "{;;$;;}": "block(%)", "{ x; $ }": "block(do(x) %)",
		"{ x\n$\ny\n}": "block(do(x) % do(y))", "{ {$} }": "block(block(%))", "{ if a {$} }": "block(if(- a block(%) -))",
		"{ if a {} else {$} }":                            "block(if(- a block block(%)))",
		"{ if a {} else if b {$} else {} }":               "block(if(- a block if(- b block(%) block)))",
		"{ for {$} }":                                     "block(for(- - - block(%)))",
		"{ for a; b; c {$} }":                             "block(for(do(a) b do(c) block(%)))",
		"{ for a := range b {$} }":                        "block(range(a - b block(%)))",
		"{ L: for a {$} }":                                "block(label:L(for(- a - block(%))))",
		"{ switch { case a: $ } }":                        "block(switch(- - case(list(a) block(%))))",
		"{ switch { default: $; case a: } }":              "block(switch(- - default(list block(%)) case(list(a) block)))",
		"{ switch a.(type) { case b:\n$\nx; default: } }": "block(typeswitch(a case(list(b) block(% do(x))) default(list block)))",
		"{ f(func() {$}) }":                               "block(do(call(f funclit(func(list -) block(%)))))",
		"{ if func() {$} == a {} }":                       "block(if(- ==(funclit(func(list -) block(%)) a) block -))",
	}
}

// expectStmt asks for the tree of a statement, wherever one may stand.
func expectStmt(t *testing.T, source, want string) {
	t.Helper()
	for form, tree := range around() {
		expectBlock(t, strings.ReplaceAll(form, "$", source), strings.ReplaceAll(tree, "%", want))
	}
}

// expectNoStmt asks that sources are no statements, wherever one may stand. (Ahead of the end of a line what is wrong
// might go on behind it.)
func expectNoStmt(t *testing.T, sources ...string) {
	t.Helper()
	for _, source := range sources {
		for form := range around() {
			if !strings.Contains(form, "$\n") {
				expectNone(t, strings.ReplaceAll(form, "$", source))
			}
		}
	}
}

// expectPlaces asks that each statement is shaped as the table of doc/06-syntax.md has it and stands where its first token
// does.
func expectPlaces(t *testing.T, source string, n api.Node) {
	t.Helper()
	tokens, _, _ := scan.Scan([]byte(source))
	texts, before := map[int]string{}, map[int]string{}
	for i, token := range tokens {
		texts[token.At] = token.Text
		if i > 0 {
			before[token.At] = tokens[i-1].Text
		}
	}
	syntax.Walk(n, func(_, _ int, n api.Node) bool {
		if !placed(n, texts[n.At]) || begins(n) && !strings.Contains("{ } ; \n : else if for switch", before[n.At]) {
			t.Errorf("P8.1: in %q %s is at %d, %q", source, told(n), n.At, texts[n.At])
		}
		return true
	})
}

// begins tells whether n is a statement that may begin with an expression.
func begins(n api.Node) bool {
	switch n.Kind {
	case api.NDefine, api.NAssign, api.NIncDec, api.NExprStmt, api.NLabel:
		return true
	}
	return false
}

// placed tells whether n may begin with a token and has the kids that it must have, if it is a statement.
func placed(n api.Node, token string) bool {
	kids, first := len(n.Kids), api.Node{}
	if kids > 0 {
		first = n.Kids[0]
	}
	switch n.Kind {
	case api.NNone:
		return reflect.DeepEqual(n, api.Node{})
	case api.NBlock:
		return n.Text == "" && (token == "{" || kids == 0 && n.At == 0 || kids > 0 && n.At == first.At)
	case api.NVar, api.NConst:
		return token == kindName(n.Kind) && n.Text != "" && kids == 2
	case api.NType:
		return token == "type" && n.Text != "" && kids == 2 && reflect.DeepEqual(first, api.Node{Kind: api.NList})
	case api.NDefine:
		return token == n.Text && kids == 1
	case api.NAssign:
		return n.At == first.At && kids == 2
	case api.NIncDec:
		return n.At == first.At && kids == 1
	case api.NExprStmt:
		return n.At == first.At && n.Text == "" && kids == 1
	case api.NDefer, api.NReturn:
		return token == kindName(n.Kind) && n.Text == "" && kids == 1
	case api.NBreak, api.NContinue:
		return token == kindName(n.Kind) && kids == 0
	case api.NLabel:
		return token == n.Text && kids == 1
	}
	return placedByHead(n, token)
}

func placedByHead(n api.Node, token string) bool {
	kids := len(n.Kids)
	switch n.Kind {
	case api.NIf:
		return token == "if" && n.Text == "" && kids == 4 && n.Kids[2].Kind == api.NBlock
	case api.NFor, api.NRange:
		return token == "for" && n.Text == "" && kids == 4 && n.Kids[3].Kind == api.NBlock
	case api.NSwitch:
		return token == "switch" && n.Text == "" && kids >= 2
	case api.NTypeSwitch:
		return token == "switch" && kids >= 1 && n.Kids[0].Kind != api.NNone
	case api.NCase:
		list := n.Kids[0]
		return token == n.Text && kids == 2 && list.Kind == api.NList && (len(list.Kids) > 0) == (token == "case") && n.Kids[1].Kind == api.NBlock
	}
	return true
}

func TestNothing(t *testing.T) {
	expectNone(t, "", " ", "\n", "\n\n", ";", ";;", "//", "// a\n", "/* a */", "/*\n*/", "\t\r\n ")
	if n, ok := parsestmt.Block(nil); ok || !reflect.DeepEqual(n, api.Node{}) {
		t.Errorf("P0.4: %s, %t", told(n), ok)
	}
}

func TestWhatIsNoBlock(t *testing.T) {
	expectNone(t, "{", "}", "}{", "{{}", "{}}", "a", "a {}", "{} a", "{}{}", "{} {}", "({})", "[]", "()", "T{}", "{a", "a}", "{;", "{\n",
		"x()",
		"a := 1", "if a {}", "for {}", "func() {}", "func f() {}", "package p", "return", "case a:", "var a T", "{} else {}", "{a]", "{a)",
		"[a}",
		"{ a } b", "{};a", "{}\na", "{}\n{}", "{}=", "{},", "{}.a", "{}()", "{}[a]", ";{}", ";\n{}", "else {}", "{})", "1", `"{}"`, "`{}`")
}

func TestWhatCannotBeScanned(t *testing.T) {
	expectNone(t, "#", "{#}", "{}#", "#{}", "{ a # }", "{ a @ b }", "{\x00}", "{}\x00", "\xff", "{ \xff }", "{ ä }", `{ "a }`, "{ `a }",
		"{ 'a' }",
		"{ 1_0 }", "{ 01 }", "{ 0x }", "{ 1e1000 }", "{ 1... }", "{ f(1...) }", "{} /*", "{ a ? b }", "{ a $ b }", `{ "\q" }`,
		"{ \"\xff\" }",
		"{ a; # }", "{ if # {} }", "{}; #")
}

// One semicolon may stand at the end, written or not, and no two.
func TestEnds(t *testing.T) {
	for source, want := range map[string]string{"{}": "block", "{ a }": "block(do(a))", "{\n\ta()\n}": "block(do(call(a)))",
		"{{}}": "block(block)"} {
		for _, end := range []string{"", " ", ";", " ; ", "\n", "\n\n\t\n", ";\n", " ;\n\n", " // end", "// end\n", "/* end */;", "/*\n*/",
			"\r\n"} {
			for _, ahead := range []string{"", " ", "\n", "\n\n", "// c\n", "/* c */", "/*\n*/", "\r\n\t"} {
				expectBlock(t, ahead+source+end, want)
			}
		}
		for _, end := range []string{";;", "; ;", "\n;", "\n\n;", ";\n;", "//\n;", "/*\n*/;", ",", ";x", "\nx", " 1", ")", "\n)", "]", "}",
			":",
			" .", " = x", "++", ";{}", "\n{}", " else {}"} {
			expectNone(t, source+end)
		}
	}
}

// Neither a word nor an operator is a statement by itself, but those that are.
func TestTokensAlone(t *testing.T) {
	for _, op := range strings.Fields("+ - * / % & | ^ &^ += -= *= /= %= &= |= ^= &^= && || == != < <= > >= ! ( ) [ ] } , . := = ++ -- ~ :") {
		expectNoStmt(t, op, op+" "+op, op+" ; a", op+" {}")
		if !strings.Contains("+ - ! ^ & *", op) {
			expectNoStmt(t, op+" a")
		}
		if !strings.Contains("++ --", op) {
			expectNoStmt(t, "a "+op)
		}
	}
	for _, word := range strings.Fields("case chan const default defer else fallthrough for func go goto if import interface map package range " +
		"select struct switch type var") {
		expectNoStmt(t, word, word+" "+word, "a "+word, "a := "+word, "f("+word+")", "var "+word+" T", "const "+word+" = 1",
			"type "+word+" T",
			word+" := 1", "break "+word, "continue "+word, "for "+word+" := range a {}", "for a, "+word+" := range b {}",
			"switch "+word+" := a.(type) {}", word+" = 1", word+"++", word+" += 1")
		switch word {
		case "for", "if", "switch":
			expectNoStmt(t, word+" a", word+" f()", word+": for {}")
		case "interface", "struct":
			expectNoStmt(t, word+" a", word+" f()", word+" a {}", word+" f() {}", word+": for {}")
		case "defer":
			expectNoStmt(t, word+" {}", word+" f() {}", word+": for {}")
		case "default":
			expectNoStmt(t, word+" a", word+" f()", word+" a {}", word+" f() {}", word+" {}")
		default:
			expectNoStmt(t, word+" a", word+" f()", word+" a {}", word+" f() {}", word+" {}", word+": for {}")
		}
	}
}

// The places of statements, by hand.
func TestPlaces(t *testing.T) {
	for source, want := range map[string]string{
		" { }":                                      "block@1",
		"{ a ; b ( ) \n\t c ++ }":                   "block@0 do@2 a@2 do@6 call@6 b@6 ++@15 c@15",
		"{ * p = 1 ; a . b [ i ] += 2 }":            "block@0 =@2 star@2 p@4 int:1@8 +=@12 index@12 dot:b@12 a@12 i@20 int:2@27",
		"{ ( a ) -- ; a + b ; - c }":                "block@0 --@2 paren@2 a@4 do@13 +@13 a@13 b@17 do@21 -@21 c@23",
		"{ x := 1 ; ; { y } }":                      "block@0 define:x@2 int:1@7 block@13 do@15 y@15",
		"{ var a T = 1 ; var b = 2 }":               "block@0 var:a@2 T@8 int:1@12 var:b@16 -@0 int:2@24",
		"{ const c = 1 ; type d [ ] T }":            "block@0 const:c@2 -@0 int:1@12 type:d@16 list@0 slice@23 T@27",
		"{ return ; return a ; break L }":           "block@0 return@2 -@0 return@11 a@18 break:L@22",
		"{ continue ; defer f ( ) }":                "block@0 continue@2 defer@13 call@19 f@19",
		"{ if a { } else if b { } else {}}":         "block@0 if@2 -@0 a@5 block@7 if@16 -@0 b@19 block@21 block@30",
		"{ if x = y ; z { } }":                      "block@0 if@2 =@5 x@5 y@9 z@13 block@15 -@0",
		"{ for ; ; { } }":                           "block@0 for@2 -@0 -@0 -@0 block@10",
		"{ for i := 0 ; i ; i ++ { } }":             "block@0 for@2 define:i@6 int:0@11 i@15 ++@19 i@19 block@24",
		"{ for k , v := range m { } }":              "block@0 range@2 k@6 v@10 m@21 block@23",
		"{ for range m { } }":                       "block@0 range@2 -@0 -@0 m@12 block@14",
		"{ L : for { } }":                           "block@0 label:L@2 for@6 -@0 -@0 -@0 block@10",
		"{ switch x ; y { } }":                      "block@0 switch@2 do@9 x@9 y@13",
		"{ switch { case a , b : c ; } }":           "block@0 switch@2 -@0 -@0 case@11 list@16 a@16 b@20 block@24 do@24 c@24",
		"{ switch { default : ; c } }":              "block@0 switch@2 -@0 -@0 default@11 list@0 block@23 do@23 c@23",
		"{ switch y := x . ( type ) { case T : } }": "block@0 typeswitch:y@2 x@14 case@29 list@34 T@34 block@0",
		"{ f := func ( ) { a } }":                   "block@0 define:f@2 funclit@7 func@7 list@12 -@0 block@16 do@18 a@18",
	} {
		n, ok := parsestmt.Block([]byte(source))
		if got := toldPlaces(n); !ok || got != want {
			t.Errorf("P8.1: the places of %q are %s, %t, not %s", source, got, ok, want)
		}
	}
}

// expectRead asks that sources are read, as whatever trees.
func expectRead(t *testing.T, sources ...string) {
	t.Helper()
	for _, source := range sources {
		n, ok := parsestmt.Block([]byte(source))
		if !ok {
			t.Errorf("P8.1: %q is not read", source)
			continue
		}
		expectPlaces(t, source, n)
		expectBack(t, n)
	}
}
