package syntax_test

import (
	"math/rand"
	"slices"
	"strings"
	"testing"

	"sterling/api"
	"sterling/syntax"
)

// Forms are texts with holes: $e for an expression, $t for a type, $s for a statement. Those without holes come first.

func exprForms() (plain, holed []string) {
	plain = []string{"a", "b1", "_", "0", "1", "0x1F", "0b1", "1.", ".5", "1.5e+3", "0x1p-2", `"s"`, `"\"\x41"`, "`r\r\n`", "a . b", "a ( )", "T { }"}
	holed = []string{
		"$e . b", "$e [ $e ]", "$e [ $e , $t , ]", "$e ( $e )", "$e ( $e , $e , )", "$e ( $e ... )", "$e ( $t , $e ... , )",
		"( $e )", "( $t )", "$e . ( $t )", "T { $e }", "a . T { $e : $e , }", "T [ $t ] { $e , $e : $e }", "$t { $e }",
		"[ ] $t { $e }", "[ $e ] $t { $e : $e }", "map [ $t ] $t { $e : $e }", "struct { a $t ; } { $e }",
		"$t", "$t ( $e )", "func ( ) { $s }", "func ( a $t ) $t { $s ; return $e }", "func ( $t , $t ) { } ( $e , $e )",
	}
	for _, op := range strings.Fields("* / % & &^ + - | ^ == != < <= > >= && ||") {
		holed = append(holed, "$e "+op+" $e")
	}
	for _, op := range strings.Fields("+ - ! ^ & *") {
		holed = append(holed, op+" $e")
	}
	return plain, holed
}

func typeForms() (plain, holed []string) {
	plain = []string{"T", "p . T", "struct { }", "interface { }", "func ( )"}
	holed = []string{
		"T [ $t ]", "p . T [ $t , $t , ]", "[ $e ] $t", "[ ] $t", "* $t", "map [ $t ] $t", "( $t )",
		"func ( ) $t", "func ( $t )", "func ( $t , $t , ) $t", "func ( a $t )", "func ( a $t , _ $t , ) $t",
		"struct { a $t }", "struct { a $t ; b ; p . T ; }", "struct { * T \n * p . T \n _ $t \n }",
		"interface { m ( ) }", "interface { m ( $t ) $t ; n ( a $t ) ; $t ; }", "interface { $t }", "interface { ~ $t }",
		"interface { $t | ~ $t | $t \n m ( ) $t }",
	}
	return plain, holed
}

func stmtForms() (plain, holed []string) {
	plain = []string{"", "a ( )", "a ++", "return", "break", "continue", "break L", "continue L", "{ }", "for { }", "switch { }", "type T U"}
	holed = []string{
		"var a $t", "var a = $e", "var a $t = $e", "const a = $e", "const a $t = $e", "type T $t", "{ $s }", "{ $s \n $s ; }",
		"$e", "a := $e", "$e = $e", "$e += $e", "$e -= $e", "$e *= $e", "$e /= $e", "$e %= $e", "$e &= $e", "$e |= $e", "$e ^= $e",
		"$e &^= $e", "$e ++", "$e --", "return $e", "defer $e", "if $e { $s }", "if $e { } else { $s }",
		"if a := $e ; $e { } else if $e { $s } else { $s }", "if $e ; $e { }", "if ; ( $e ) { }", "for $e { $s }", "for ( $e ) { $s }",
		"for ; $e ; { }", "for ; $e \n { }", "for a := $e ; $e ; $e ++ { $s }", "for $e ; ; { }", "for ; ; $e = $e { $s }",
		"for range $e { $s }", "for a := range $e { }", "for a , _ := range ( $e ) { $s }",
		"switch $e { }", "switch $e \n { }", "switch a := $e ; $e { case $e , $t : $s ; $s ; case $e : default : $s }", "switch { case $e : $s }",
		"switch $e . ( type ) { case $t : $s }", "switch a := $e . ( type ) { case $t , $t : $s \n default : $s ; }",
		"switch a := ( $e ) . ( type ) { default : }",
		"L : for { $s }", "L : for $e { }", "L : for range $e { }", "L : \n switch $e { case $e : $s }", "L : switch $e . ( type ) { }",
	}
	return plain, holed
}

func fileForms() []string {
	return []string{
		"import \"a\" ; import `b` ; var a $t = $e ; const b = $e", "var a $t \n const b $t = $e \n var c = $e", "type T $t",
		"type T [ a $t ] $t", "type T [ a $t , b ~ $t | $t , ] $t ; type U [ a ~ $t ] $t", "func f ( ) { $s }", "func f ( a $t ) $t { $s ; }",
		"func ( r T ) f ( ) $t { $s }", "func ( r * T ) f ( a $t , b $t ) { $s }", "func ( _ * T [ a , b ] ) f ( ) { }",
		"func f [ a $t ] ( ) { $s }", "func f [ a $t | $t , b $t ] ( c $t , _ $t , ) $t { $s \n $s }",
	}
}

// kind is the sort of a hole, and a way to read what fills one.
type kind struct {
	hole          string
	plain, holed  []string
	ahead, behind string
	read          reader
}

func kinds() []kind {
	list := []kind{{hole: "$e", read: modelExpr}, {hole: "$t", read: modelType}, {hole: "$s", ahead: "{ ", behind: " }", read: modelBlock}}
	for i, forms := range []func() (plain, holed []string){exprForms, typeForms, stmtForms} {
		list[i].plain, list[i].holed = forms()
	}
	return list
}

// firstHole is the first hole of a form and its place.
func firstHole(form string) (string, int) {
	at := strings.Index(form, "$")
	if at < 0 {
		return "", -1
	}
	return form[at : at+2], at
}

// filled fills the holes of a form, one behind the other.
func filled(form string, filling func(hole string) string) string {
	var text strings.Builder
	for {
		hole, at := firstHole(form)
		if at < 0 {
			return text.String() + form
		}
		text.WriteString(form[:at] + filling(hole))
		form = form[at+2:]
	}
}

func simplest(hole string) string {
	return map[string]string{"$e": "x", "$t": "T", "$s": "x ( )"}[hole]
}

// expectText asks that, if a source is read, its tree's text is read as the same; it tells whether it is read.
func expectText(t *testing.T, read reader, source string) bool {
	t.Helper()
	n, ok := read(source)
	if !ok {
		return false
	}
	if text := syntax.Print(n); !readsAs(read, text, n) {
		t.Errorf("P6.2: %q is read as %s, but its text is %q", source, whole(n), text)
	}
	return true
}

func TestPrintOfForms(t *testing.T) {
	for _, k := range kinds() {
		for _, form := range append(k.plain, k.holed...) {
			if source := k.ahead + filled(form, simplest) + k.behind; !expectText(t, k.read, source) {
				t.Errorf("%q is not read", source)
			}
		}
	}
	for _, form := range fileForms() {
		if source := "package p ; " + filled(form, simplest); !expectText(t, modelFile, source) {
			t.Errorf("%q is not read", source)
		}
	}
}

// expectInside fills each hole of a form with each form of the hole's kind, all others simply; it tells how many are read.
func expectInside(t *testing.T, read reader, ahead, form, behind string) (good, all int) {
	for _, inner := range kinds() {
		for _, filling := range append(inner.plain, inner.holed...) {
			for which := range strings.Count(form, inner.hole) {
				seen := 0
				source := filled(form, func(hole string) string {
					if hole == inner.hole {
						seen++
						if seen == which+1 {
							return filled(filling, simplest)
						}
					}
					return simplest(hole)
				})
				all++
				if expectText(t, read, ahead+source+behind) {
					good++
				}
			}
		}
	}
	return good, all
}

func TestPrintOfFormsInsideForms(t *testing.T) {
	good, all := 0, 0
	add := func(g, a int) { good, all = good+g, all+a }
	for _, k := range kinds() {
		for _, form := range k.holed {
			add(expectInside(t, k.read, k.ahead, form, k.behind))
		}
	}
	for _, form := range fileForms() {
		add(expectInside(t, modelFile, "package p ; ", form, ""))
	}
	if good < 5000 || good < all*4/5 {
		t.Errorf("only %d of %d are read", good, all)
	}
}

// grower makes texts of forms inside forms, in shapes that random says.
type grower struct {
	random *rand.Rand
	kinds  []kind
}

func (g grower) one(list []string) string { return list[g.random.Intn(len(list))] }

func (g grower) text(hole string, depth int) string {
	k := g.kinds[slices.IndexFunc(g.kinds, func(k kind) bool { return k.hole == hole })]
	if depth == 0 || g.random.Intn(8) == 0 {
		return g.one(k.plain)
	}
	return g.fill(g.one(k.holed), depth-1)
}

func (g grower) fill(form string, depth int) string {
	return filled(form, func(hole string) string { return g.text(hole, depth) })
}

func TestPrintOfRandomTexts(t *testing.T) {
	g := grower{rand.New(rand.NewSource(65)), kinds()}
	good, all, files := 0, 0, fileForms()
	expect := func(read reader, source string) {
		all++
		if expectText(t, read, source) {
			good++
		}
	}
	for range 4000 {
		depth := 1 + g.random.Intn(4)
		for _, k := range g.kinds {
			expect(k.read, k.ahead+g.text(k.hole, depth)+k.behind)
		}
		expect(modelFile, "package p\n"+g.fill(g.one(files), depth)+"\n")
	}
	if good < all*4/5 {
		t.Errorf("only %d of %d are read", good, all)
	}
}

// What is read by chance, of any tokens, is printed well, too.
func TestPrintOfRandomTokens(t *testing.T) {
	const many, least = 100000, 4000
	g := grower{rand.New(rand.NewSource(66)), kinds()}
	tokens := strings.Fields("a b T 1 .5 ( ) ( ) [ ] { } { } , ; . := = + - * & ^ ! ~ | : ... " +
		"func struct interface map for range switch if case type return")
	good := 0
	for range many {
		var source []string
		for range 1 + g.random.Intn(7) {
			source = append(source, g.one(tokens))
		}
		for _, k := range g.kinds {
			if expectText(t, k.read, k.ahead+strings.Join(source, " ")+k.behind) {
				good++
			}
		}
	}
	if good < least {
		t.Errorf("only %d are read", good)
	}
}

// The deepest trees that are read are printed whole.
func TestPrintOfDeepest(t *testing.T) {
	for _, k := range kinds() {
		for _, form := range k.holed {
			if strings.Contains(form, k.hole) {
				expectDeepest(t, k, form)
			}
		}
	}
}

// expectDeepest puts a form into itself as often as may be.
func expectDeepest(t *testing.T, k kind, form string) {
	t.Helper()
	once, _ := k.read(k.ahead + nested(k, form, 1) + k.behind)
	twice, ok := k.read(k.ahead + nested(k, form, 2) + k.behind)
	if !ok {
		// Not all forms may stand in themselves.
		return
	}
	step := syntax.Depth(twice) - syntax.Depth(once)
	times := 1 + (api.MaxDepth-syntax.Depth(once))/step
	n, ok := k.read(k.ahead + nested(k, form, times) + k.behind)
	if !ok || syntax.Depth(n) > api.MaxDepth || syntax.Depth(n) <= api.MaxDepth-step {
		t.Errorf("%q in itself, %d times, is read as a tree %d deep, %t", form, times, syntax.Depth(n), ok)
	}
	expectBack(t, k.read, n)
}

// nested is a form in the first hole of its kind of itself, some times.
func nested(k kind, form string, times int) string {
	text := simplest(k.hole)
	for range times {
		inner := text
		text = filled(form, func(hole string) string {
			if hole != k.hole || inner == "" {
				return simplest(hole)
			}
			put := inner
			inner = ""
			return put
		})
	}
	return text
}
