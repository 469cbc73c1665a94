package types_test

import (
	"strings"
	"testing"

	"sterling/api"
	"sterling/scan"
	"sterling/source"
	"sterling/types"
)

func TestBasic(t *testing.T) {
	for _, name := range []string{"bool", "string", "int", "int8", "uint8", "uint", "float32", "float64"} {
		if got := types.Basic(name); whole(got) != whole(basic(name)) {
			t.Errorf("P11.1: Basic(%s): %s", name, brief(got))
		}
	}
	for _, name := range []string{
		"", " ", "Int", "int ", " int", "int\x00", "int16", "int32", "int64", "uint16", "uint32", "uint64", "uintptr", "byte", "rune", "float", "float16", "complex128", "any", "error",
		"comparable", "nil", "void", "untyped int", "a.int", "boolean", "boo", "\xff", strings.Repeat("int", 1<<20),
	} {
		if got := types.Basic(name); whole(got) != whole(api.Type{}) {
			t.Errorf("P11.1: Basic(%.20q): %s", name, brief(got))
		}
	}
}

func TestIntegerAndNumeric(t *testing.T) {
	expect := func(why string, x api.Type, integer, numeric bool) {
		t.Helper()
		if types.Integer(x) != integer || types.Numeric(x) != numeric {
			t.Errorf("P11.1: %s: Integer %v, Numeric %v", why, types.Integer(x), types.Numeric(x))
		}
	}
	for name, class := range map[string][2]bool{
		"bool": {}, "string": {}, "int": {true, true}, "int8": {true, true}, "uint8": {true, true}, "uint": {true, true}, "float32": {false, true}, "float64": {false, true},
		"": {}, "rune": {}, "float": {}, "int16": {}, "Int": {},
	} {
		expect(name, basic(name), class[0], class[1])
		for _, kind := range append(kinds(), unknownKinds()...) {
			if kind != api.KBasic {
				expect("another kind of that name", api.Type{Kind: kind, Name: name}, false, false)
				expect("another kind that holds it", api.Type{Kind: kind, Args: []api.Type{basic(name)}}, false, false)
			}
		}
		for _, x := range []api.Type{
			{Len: 1}, {Len: -1}, {Args: []api.Type{integer}}, {Names: []string{""}}, {Emb: []bool{false}}, {Sets: [][]api.Term{nil}}, {Sets: [][]api.Term{union(only(integer))}},
		} {
			x.Kind, x.Name = api.KBasic, name
			expect("a field too much", x, false, false)
		}
	}
	for _, kind := range kinds() {
		if kind != api.KBasic {
			expect("another kind", plain(kind), false, false)
		}
	}
	for _, x := range refusedTypes() {
		expect(x.why, x.Type, false, false)
	}
}

func expectTypeName(t *testing.T, name string, want bool) {
	t.Helper()
	if got := types.May(named(name)); got != want {
		t.Errorf("P11.1: a declared type's Name %.120q (%d bytes): %v", name, len(name), got)
	}
	if got := types.May(slice(named(name, integer))); got != want {
		t.Errorf("P11.1: a declared type's Name %.120q inside: %v", name, got)
	}
}

func TestNamesOfDeclaredTypes(t *testing.T) {
	long, longest := strings.Repeat("p", 99), strings.Repeat("p", 100)
	for _, name := range []string{
		"error", "comparable", "a.T", "a.t", "a._", "a._1", "a.T9", "A.T", "_.T", "0.T", "9/8.T", "a/b/c.T", "a//b.T", "a.b.T", "a..T", "..T", "...T", "-.T", "a-b.T", ".a.T",
		"a~0.T", "a~1.T", "a~9.T", "a~10.T", "a~100.T", "a/b.c~2.T", "a.~2.T", "a~18446744073709551616.T", "a~9999999999999999999999999999999999999999.T", "a.error", "a.int", "error.T",
		"a.func", "a.range", "a.type", "a.chan", "a.goto", "func.T", "map~3.map", long + ".T", longest + ".T", longest + "~7.T", longest + "~" + longest[:0] + "70000.T", "a." + longest + longest,
	} {
		expectTypeName(t, name, true)
	}
	for _, name := range []string{
		"", "T", "int", "any", "Error", "errors", "error ", " error", "comparables", "error.", ".error", ".T", "a.", ".", "..", "~", "~.", "~0.T", "~1.T", "/.T", "/a.T", "a/.T", "a/~1.T", "/a~1.T",
		"a~.T", "a~00.T", "a~01.T", "a~007.T", "a~0x1.T", "a~+1.T", "a~-1.T", "a~ 1.T", "a~1 .T", "a~1a.T", "a~a.T", "a~1~2.T", "a~~1.T", "a~1/b.T", "a~1.b.T", "a~1.5.T", "a~1", "a~1.", "a~1T",
		"a.1", "a.1T", "a.T-", "a.T/", "a.T~1", "a.T b", "a. T", "a.T ", " a.T", "a .T", "a b.T", "a.T\n", "\na.T", "a\n.T", "a.\xff", "\xff.T", "a.é", "é.T", "a.T\x00", "\x00.T", "a,b.T", "a[b].T",
		"a.T[int]", "*a.T", "$.T", "a:b.T", `a\b.T`, "a@b.T", "a+b.T", "a.$", "a.T.", "a~٣.T", "error~1", "error[int]",
		longest + "p.T", longest + "p~1.T", strings.Repeat("p", 1<<20) + ".T",
	} {
		expectTypeName(t, name, false)
	}
}

// All short names, of the bytes that mean something and some that do not.
func TestShortNamesOfDeclaredTypes(t *testing.T) {
	const alphabet = "aZ_09./-~ \xff"
	var walk func(name string)
	walk = func(name string) {
		if got, want := types.May(named(name)), isModelTypeName(name); got != want {
			t.Errorf("P11.1: a declared type's Name %q: %v", name, got)
		}
		if len(name) < 5 {
			for i := range len(alphabet) {
				walk(name + alphabet[i:i+1])
			}
		}
	}
	walk("")
}

// What a path is, and a name, is what the packages source and scan say.
func TestPathsAndNamesAreThoseOfOthers(t *testing.T) {
	random := newMaker(1111)
	pieces := []string{"a", "b9", "Z", "_", "0", "7", "/", ".", "-", " ", "~", "é", "func", "if", "\x80", "(", strings.Repeat("q", 49), strings.Repeat("r", 50)}
	for range 20000 {
		s := ""
		for range random.Intn(6) {
			s += pick(random, pieces...)
		}
		if got, want := types.May(named(s+".T")), source.Path(s); got != want && !strings.Contains(s, "~") {
			t.Fatalf("P11.1: the path %q: %v", s, got)
		}
		tokens, _, ok := scan.Scan([]byte(s))
		want := ok && tokens[0].Text == s && (tokens[0].Kind == api.TName || tokens[0].Kind == api.TWord)
		if got := types.May(structOf(member{name: s, t: integer})); got != want {
			t.Fatalf("P11.1: a field's name %q: %v", s, got)
		}
		if got := types.May(methods(member{name: s, t: function(void())})); got != (want && s != "_") {
			t.Fatalf("P11.1: a method's name %q: %v", s, got)
		}
		if got := types.May(named("a." + s)); got != want && !strings.Contains(s, ".") {
			t.Fatalf("P11.1: a declared type's name %q: %v", s, got)
		}
	}
}

func TestNamesOfEachByte(t *testing.T) {
	for b := range 256 {
		c := string([]byte{byte(b)})
		letter := c >= "a" && c <= "z" || c >= "A" && c <= "Z" || c == "_"
		digit := c >= "0" && c <= "9"
		for name, want := range map[string]bool{c: letter, "x" + c: letter || digit, c + "x": letter, "x" + c + "x": letter || digit} {
			if got := types.May(structOf(member{name: name, t: integer})); got != want {
				t.Errorf("P11.1: a field's name %q: %v", name, got)
			}
		}
		if got, want := types.May(named("x"+c+"x.T")), letter || digit || strings.Contains("/.-", c); got != want {
			t.Errorf("P11.1: a path with %q: %v", c, got)
		}
		if got := types.May(named("x~" + c + ".T")); got != digit {
			t.Errorf("P11.1: a number %q: %v", c, got)
		}
		if !types.May(param(c)) || types.Text(param(c)) != "$1:"+c {
			t.Errorf("P11.1: a parameter's name %q may not be", c)
		}
	}
}

// The 25 words are names of fields, methods and declared types.
func TestWords(t *testing.T) {
	words := "break case chan const continue default defer else fallthrough for func go goto if import interface map package range return select struct switch type var"
	for _, word := range strings.Fields(words) {
		inner := named("a."+word, integer)
		for _, x := range []api.Type{
			inner, structOf(member{name: word, t: integer}), structOf(member{name: word, t: inner, emb: true}), structOf(member{name: word, t: pointer(inner), emb: true}),
			methods(member{name: word, t: function(void())}), param(word), named(word + "." + word),
		} {
			if !types.May(x) {
				t.Errorf("P11.1: with the word %s it may not be: %s", word, brief(x))
			}
		}
	}
}
