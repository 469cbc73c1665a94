package scan_test

import (
	"fmt"
	"math/rand"
	"slices"
	"strings"
	"testing"

	"sterling/api"
	"sterling/scan"
)

// roomy is s as bytes, with spare room behind them that is marked.
func roomy(s string) []byte {
	memory := append([]byte(s), "????"...)
	return memory[:len(s)]
}

func told(tokens []api.Token) string {
	var out []string
	for _, t := range tokens {
		out = append(out, fmt.Sprintf("%d%s@%d", t.Kind, strings.ReplaceAll(t.Text, "\n", "!"), t.At))
	}
	return strings.Join(out, " ")
}

// scanned scans s, and looks whether its bytes and their spare room are left alone.
func scanned(t *testing.T, s string) ([]api.Token, int, bool) {
	t.Helper()
	memory := roomy(s)
	tokens, at, ok := scan.Scan(memory)
	if string(memory) != s || string(memory[len(s):len(s)+4]) != "????" {
		t.Errorf("P0.3: Scan(%.200q) changed its argument", s)
	}
	for i := range memory {
		memory[i] = '#'
	}
	if ok && (at != 0 || len(tokens) == 0) || !ok && len(tokens) != 0 {
		t.Errorf("P0.2: Scan(%.200q): %d tokens, %d, %t", s, len(tokens), at, ok)
	}
	return tokens, at, ok
}

func expectTokens(t *testing.T, s, want string) {
	t.Helper()
	tokens, at, ok := scanned(t, s)
	if got := told(tokens); !ok || got != want {
		t.Errorf("P5.1: Scan(%.200q): %.300s, %d, %t, not %.300s", s, got, at, ok, want)
	}
}

// expectWrong asks for a place from from to to.
func expectWrong(t *testing.T, s string, from, to int) {
	t.Helper()
	tokens, at, ok := scanned(t, s)
	if ok || at < from || at > to {
		t.Errorf("P5.1: Scan(%.200q): %.200s, %d, %t, not wrong from %d to %d", s, told(tokens), at, ok, from, to)
	}
}

// expectLikeModel holds the answer for s against the model's.
func expectLikeModel(t *testing.T, s string) {
	t.Helper()
	tokens, from, to, ok := modelScan(s)
	if ok {
		expectTokens(t, s, told(tokens))
	} else {
		expectWrong(t, s, from, to)
	}
}

// expectOne asks for s to be one token, whatever harmless stands around it, with a semicolon behind it or none.
func expectOne(t *testing.T, s string, kind int, semicolon bool) {
	t.Helper()
	at := func(n int, tail string) string {
		if !semicolon {
			return fmt.Sprintf("%d%s@%d 0@%d", kind, strings.ReplaceAll(s, "\n", "!"), n, n+len(s+tail))
		}
		behind := n + len(s) + strings.IndexAny(tail+"\n", "\n")
		return fmt.Sprintf("%d%s@%d 7!@%d 0@%d", kind, strings.ReplaceAll(s, "\n", "!"), n, behind, n+len(s+tail))
	}
	for _, ahead := range []string{"", " ", "\n", "\t\r\n ", "/**/", "// x\n"} {
		for _, behind := range []string{"", " ", "\n", "\r\n", " // y", " // y\n\n", "\t/* z */ \n"} {
			expectTokens(t, ahead+s+behind, at(len(ahead), behind))
		}
	}
}

func TestWhereNothingStands(t *testing.T) {
	for _, s := range []string{"", " ", "\n", "\t\r\n \n", "//", "// a\n", "/**/", "/***/", "/* a */", "/*\n*/", "//\n/* */\n//", "/*/*/", "// /*\n", "/* // */"} {
		expectTokens(t, s, fmt.Sprintf("0@%d", len(s)))
	}
	if tokens, at, ok := scan.Scan(nil); told(tokens) != "0@0" || at != 0 || !ok {
		t.Errorf("P0.4: Scan(nil): %s, %d, %t", told(tokens), at, ok)
	}
}

func TestNames(t *testing.T) {
	for _, s := range []string{"a", "z", "A", "Z", "_", "__", "_1", "a1", "x0_9Z", "nil", "true", "iota", "int", "breaks", "Break", "BREAK", "_if", "if_", "if1", "e1", "x1", "p", strings.Repeat("n", 5000)} {
		expectOne(t, s, api.TName, true)
		if scan.Word(s) {
			t.Errorf("P5.1: Word(%.200q)", s)
		}
	}
	expectTokens(t, "a b", "1a@0 1b@2 7!@3 0@3")
	expectTokens(t, "a\nb", "1a@0 7!@1 1b@2 7!@3 0@3")
	expectTokens(t, "a.b,c", "1a@0 5.@1 1b@2 5,@3 1c@4 7!@5 0@5")
}

func TestWords(t *testing.T) {
	words := strings.Fields("break case chan const continue default defer else fallthrough for func go goto if import interface map package range return select struct switch type var")
	if len(words) != 25 {
		t.Fatalf("there are %d words", len(words))
	}
	for _, s := range words {
		expectOne(t, s, api.TWord, s == "break" || s == "continue" || s == "return")
		if !scan.Word(s) {
			t.Errorf("P5.1: not Word(%q)", s)
		}
		for _, other := range []string{s + "s", s + " ", " " + s, s + "\n", s + "\x00", strings.ToUpper(s), strings.ToUpper(s[:1]) + s[1:], s[1:], s[:len(s)-1] + "_", "_" + s, s + s} {
			if scan.Word(other) {
				t.Errorf("P5.1: Word(%q)", other)
			}
		}
	}
	for _, s := range []string{"", " ", "\x00", "\xff", "nil", "int", "string", "any", "print", "main", "breakcase", "break case", "~", "1", strings.Repeat("go", 4000)} {
		if scan.Word(s) {
			t.Errorf("P5.1: Word(%.200q)", s)
		}
	}
}

func TestOperators(t *testing.T) {
	operators := strings.Fields(modelOperators)
	if len(operators) != 42 {
		t.Fatalf("there are %d operators", len(operators))
	}
	for _, s := range operators {
		kind := api.TOp
		if s == ";" {
			kind = api.TSemi
		}
		expectOne(t, s, kind, strings.Contains(" ++ -- ) ] } ", " "+s+" "))
		for _, other := range operators {
			expectLikeModel(t, s+other)
			expectLikeModel(t, s+"\n"+other)
			expectLikeModel(t, "a"+s+other+"b\n")
		}
	}
}

func TestLongestOperator(t *testing.T) {
	for s, want := range map[string]string{
		"&^=":   "5&^=@0 0@3",
		"&^ =":  "5&^@0 5=@3 0@4",
		"& ^=":  "5&@0 5^=@2 0@4",
		"&&^=":  "5&&@0 5^=@2 0@4",
		"&&=":   "5&&@0 5=@2 0@3",
		"&^&":   "5&^@0 5&@2 0@3",
		"|||=":  "5||@0 5|=@2 0@4",
		"+++":   "5++@0 5+@2 0@3",
		"++=":   "5++@0 5=@2 0@3",
		"+++=":  "5++@0 5+=@2 0@4",
		"---":   "5--@0 5-@2 0@3",
		"===":   "5==@0 5=@2 0@3",
		"!==":   "5!=@0 5=@2 0@3",
		"!!":    "5!@0 5!@1 0@2",
		"<<":    "5<@0 5<@1 0@2",
		"<<=":   "5<@0 5<=@1 0@3",
		">>=":   "5>@0 5>=@1 0@3",
		"<-":    "5<@0 5-@1 0@2",
		"->":    "5-@0 5>@1 0@2",
		"...":   "5.@0 5.@1 5.@2 0@3",
		"..5":   "5.@0 3.5@1 7!@3 0@3",
		"::=":   "5:@0 5:=@1 0@3",
		":==":   "5:=@0 5=@2 0@3",
		"~=":    "5~@0 5=@1 0@2",
		"*/":    "5*@0 5/@1 0@2",
		"/=*":   "5/=@0 5*@2 0@3",
		"**":    "5*@0 5*@1 0@2",
		";;":    "7;@0 7;@1 0@2",
		"}\n}":  "5}@0 7!@1 5}@2 7!@3 0@3",
		"} }":   "5}@0 5}@2 7!@3 0@3",
		"[]{}":  "5[@0 5]@1 5{@2 5}@3 7!@4 0@4",
		"x--\n": "1x@0 5--@1 7!@3 0@4",
		"x-- y": "1x@0 5--@1 1y@4 7!@5 0@5",
	} {
		expectTokens(t, s, want)
	}
}

func TestSemicolons(t *testing.T) {
	for s, want := range map[string]string{
		"a;":                     "1a@0 7;@1 0@2",
		"a;\n":                   "1a@0 7;@1 0@3",
		"a\n;":                   "1a@0 7!@1 7;@2 0@3",
		";\n":                    "7;@0 0@2",
		"a\n\n\nb":               "1a@0 7!@1 1b@4 7!@5 0@5",
		"a \t\r\nb":              "1a@0 7!@4 1b@5 7!@6 0@6",
		"a ":                     "1a@0 7!@2 0@2",
		"a\r":                    "1a@0 7!@2 0@2",
		"a //":                   "1a@0 7!@4 0@4",
		"a // b":                 "1a@0 7!@6 0@6",
		"a // b\r\n":             "1a@0 7!@7 0@8",
		"a//\n//\n":              "1a@0 7!@3 0@7",
		"a /* b */":              "1a@0 7!@9 0@9",
		"a /* b */\n":            "1a@0 7!@9 0@10",
		"a /* b */ // c\nd":      "1a@0 7!@14 1d@15 7!@16 0@16",
		"a /**/ /*\n*/ b":        "1a@0 7!@7 1b@13 7!@14 0@14",
		"a /*\n*/ /*\n*/\nb":     "1a@0 7!@2 1b@14 7!@15 0@15",
		"a /*\n\n*/":             "1a@0 7!@2 0@8",
		"a/*\n*/;":               "1a@0 7!@1 7;@6 0@7",
		"a /* b */ ; /*\n*/ // ": "1a@0 7;@10 0@21",
		"+ /*\n*/ a":             "5+@0 1a@8 7!@9 0@9",
		"a +\n b":                "1a@0 5+@2 1b@5 7!@6 0@6",
		"f(\na,\n)\n":            "1f@0 5(@1 1a@3 5,@4 5)@6 7!@7 0@8",
		"f(a\n)":                 "1f@0 5(@1 1a@2 7!@3 5)@4 7!@5 0@5",
		"if a {\n}\nelse":        "6if@0 1a@3 5{@5 5}@7 7!@8 6else@9 0@13",
		"return\na":              "6return@0 7!@6 1a@7 7!@8 0@8",
		"break /* a */ // b":     "6break@0 7!@18 0@18",
		"continue/*\n*/\n":       "6continue@0 7!@8 0@14",
		"fallthrough\n":          "6fallthrough@0 0@12",
		"goto\n":                 "6goto@0 0@5",
		"`a\nb`\nc":              "4`a!b`@0 7!@5 1c@6 7!@7 0@7",
		"`\n`":                   "4`!`@0 7!@3 0@3",
		"1\n.5\n2.":              "21@0 7!@1 3.5@2 7!@4 32.@5 7!@7 0@7",
		"\"\"\n``\n":             "4\"\"@0 7!@2 4``@3 7!@5 0@6",
		"a\n\n":                  "1a@0 7!@1 0@3",
	} {
		expectTokens(t, s, want)
	}
}

func TestComments(t *testing.T) {
	for s, want := range map[string]string{
		"a/**/b":                 "1a@0 1b@5 7!@6 0@6",
		"re/**/turn":             "1re@0 1turn@6 7!@10 0@10",
		"1/**/2":                 "21@0 22@5 7!@6 0@6",
		"+/**/+":                 "5+@0 5+@5 0@6",
		"/ *":                    "5/@0 5*@2 0@3",
		"a/b//c":                 "1a@0 5/@1 1b@2 7!@6 0@6",
		"a///*\nb*/":             "1a@0 7!@5 1b@6 5*@7 5/@8 0@9",
		"/* /* */ a":             "1a@9 7!@10 0@10",
		"/* // */ a":             "1a@9 7!@10 0@10",
		"/*\"*/ a /*\"*/":        "1a@6 7!@13 0@13",
		"\"/*\" /*\"*/":          "4\"/*\"@0 7!@10 0@10",
		"`//` // `":              "4`//`@0 7!@9 0@9",
		"/*\xff\x00\xed\xa0*/ a": "1a@9 7!@10 0@10",
		"a // \xff\x00'#\nb":     "1a@0 7!@9 1b@10 7!@11 0@11",
		"/*ä*/a":                 "1a@6 7!@7 0@7",
		"/**\n**/":               "0@7",
	} {
		expectTokens(t, s, want)
	}
	for s, from := range map[string]int{"/*": 0, "/*/": 0, "/* *": 0, "/*\n": 0, "a /* b": 2, "/**/ /*": 5, "// a\n/*": 5, "/* * /": 0, "a\n/*\xff": 2} {
		expectWrong(t, s, from, len(s))
	}
}

func TestBytesThatMayNotStand(t *testing.T) {
	const stand = "abcdefghijklmnopqrstuvwxyzABCDEFGHIJKLMNOPQRSTUVWXYZ_0123456789 \t\r\n+-*/%&|^=<>!()[]{},;.~:"
	for b := range 256 {
		s := string([]byte{byte(b)})
		if strings.Contains(stand, s) {
			expectLikeModel(t, s)
			continue
		}
		expectWrong(t, s, 0, 1)
		if s == "\"" || s == "`" {
			continue
		}
		expectWrong(t, "a "+s+" b", 2, 3)
		expectWrong(t, "a"+s, 1, 2)
		expectWrong(t, "1"+s, 0, 2)
		expectWrong(t, "+"+s+"=", 1, 2)
		expectWrong(t, "\"\\\""+s+"\""+s, 0, 5)
		expectWrong(t, "/*"+s+"*/"+s, 5, 6)
		expectWrong(t, "//"+s+"\n"+s, 4, 5)
	}
	for s, from := range map[string]int{"a := 'b'": 5, "é": 0, "aé": 1, "x\u00a0y": 1, "\ufeffpackage": 0, "a\x00": 1, "a\fb": 1, "a\vb": 1, "a\\\nb": 1, "a ? b": 2, "<<=@": 3, "$": 0, "a @ #": 2, "\u2028": 0} {
		expectWrong(t, s, from, from+1)
	}
}

func TestFirstWrongThing(t *testing.T) {
	expectWrong(t, "a\nb # 07 \"", 4, 5)
	expectWrong(t, "a 07 # \"", 2, 4)
	expectWrong(t, "\"\\q\" # /*", 0, 4)
	expectWrong(t, "/* # 07", 0, 7)
}

var pieces = []string{
	"a", "b1", "_", "if", "return", "break", "x", "e", "p", "0", "1", "7", "9", "0x", "0X1f", "0b", "0o17", ".", "..", "e+", "E-5", "p-1", "P", "1000",
	"999", "\"", "\"a\"", "\"\\n\\x4a\\u20ac\"", "`", "`a\r\n`", "\\", "\\n", "\\xff", "\\ud800", "\\u", "é", "\xff", "\xed\xa0\x80", "\xc0\x80", "😀",
	" ", "\t", "\r", "\n", "\n\n", "//", "// c\n", "/*", "*/", "/* c */", "/* c\n*/", "+", "-", "*", "/", "%", "&", "|", "^", "=", "<", ">", "!", "(", ")",
	"[", "]", "{", "}", ",", ";", ":", "~", "#", "'", "\x00", "&^=", "++", "--",
}

func TestLikeModelOnPairs(t *testing.T) {
	for _, a := range pieces {
		for _, b := range pieces {
			expectLikeModel(t, a+b)
			expectLikeModel(t, "a "+a+" "+b+"\n")
		}
	}
}

func TestLikeModelOnRandomPieces(t *testing.T) {
	random := rand.New(rand.NewSource(5))
	harmless := slices.DeleteFunc(slices.Clone(pieces), func(s string) bool {
		_, _, _, ok := modelScan(s)
		return !ok || s == "//"
	})
	for i := range 20000 {
		list, between := pieces, ""
		if i%2 == 0 {
			list, between = harmless, " "
		}
		var s strings.Builder
		for range random.Intn(12) {
			s.WriteString(list[random.Intn(len(list))])
			if random.Intn(4) > 0 {
				s.WriteString(between)
			}
		}
		expectLikeModel(t, s.String())
	}
}

func TestLongSources(t *testing.T) {
	const n = 100000
	if tokens, _, ok := scanned(t, strings.Repeat("a\n", n)); !ok || len(tokens) != 2*n+1 || tokens[2*n].At != 2*n {
		t.Errorf("P5.1: a long source: %d tokens, %t", len(tokens), ok)
	}
	if tokens, _, ok := scanned(t, strings.Repeat("(", n)); !ok || len(tokens) != n+1 {
		t.Errorf("P5.1: many brackets: %d tokens, %t", len(tokens), ok)
	}
	for _, long := range []string{strings.Repeat("a", n), strings.Repeat("1", n), "0." + strings.Repeat("0", n), "\"" + strings.Repeat("\\t", n) + "\"", "`" + strings.Repeat("\n", n) + "`"} {
		if tokens, _, ok := scanned(t, long); !ok || len(tokens) != 3 || tokens[0].Text != long || tokens[1].At != len(long) {
			t.Errorf("P5.1: a long token %.20q: %d tokens, %t", long, len(tokens), ok)
		}
	}
	expectWrong(t, "\""+strings.Repeat("a", n), 0, n+1)
	expectWrong(t, "/*"+strings.Repeat("*", n), 0, n+2)
	expectWrong(t, strings.Repeat(" ", n)+"#", n, n+1)
}

func TestAnswersAreNew(t *testing.T) {
	source := []byte("a := `b`\nreturn")
	first, _, _ := scan.Scan(source)
	want := told(first)
	second, _, _ := scan.Scan(source)
	for i := range first[:cap(first)] {
		first[:cap(first)][i] = api.Token{Kind: 9, Text: "?", At: -1}
	}
	if got := told(second); got != want {
		t.Errorf("P0.3: two answers share memory: %s", got)
	}
	third, _, _ := scan.Scan(source)
	for i := range source {
		source[i] = '#'
	}
	if got := told(third); got != want {
		t.Errorf("P0.3: an answer hangs on the argument's memory, or on another's: %s", got)
	}
}
