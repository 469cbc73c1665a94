package parsefile_test

import (
	"fmt"
	"math/rand"
	"slices"
	"strings"
	"testing"

	"sterling/api"
	"sterling/parseexpr"
	"sterling/parsefile"
	"sterling/syntax"
)

// Forms are texts with holes: $d for a declaration, $i for an import, $p for a list of type parameters, $c for a constraint,
// $r for a receiver, $e for an expression, $t for a type, $s for a statement.

func forms(hole string) []string {
	switch hole {
	case "$d":
		return declForms()
	case "$i":
		return []string{"import \"a\"", "import `b`", "import \"c/d\""}
	case "$p":
		return []string{"[ P $c ]", "[ P $c , ]", "[ P $c , Q $c ]", "[ P $c , _ $c , R $c , ]", "[ P ]", "[ P , Q $c ]", "[ ]"}
	case "$c":
		return []string{"$t", "~ $t", "$t | $t", "~ $t | $t", "$t | ~ $t | $t", "interface { $t | ~ $t }", "any"}
	case "$r":
		return []string{"( r T )", "( r * T )", "( _ T [ A ] )", "( r * T [ A , B , ] )", "( T )", "( r p . T )", "( r , s T )",
			"( r T , )", "( r $t )", "( $t )",
			"( r T [ $t ] )", "( )"}
	case "$t":
		return []string{"T", "p . T", "[ ] $t", "[ $e ] $t", "* $t", "map [ $t ] $t", "func ( a $t ) $t", "func ( )", "struct { a $t ; b }",
			"interface { m ( $t ) }", "( $t )", "G [ $t ]", "[ n ] $t"}
	case "$s":
		return []string{"$e", "a := $e", "$e = $e", "$e ++", "return $e", "var a $t = $e", "const a = $e", "type T $t", "{ $s }",
			"if $e { $s }", "for { $s \n $s }",
			"for range $e { $s }", "switch { case $e : $s }", "", ";"}
	}
	return []string{"a", "1", `"s"`, "( $e )", "$e . b", "$e [ $e ]", "$e ( $e , $e )", "$e ( $e ... )", "$e . ( $t )", "T { $e : $e }",
		"[ ] $t { $e }", "$e + $e",
		"$e == $e", "- $e", "* $e", "& $e", "func ( ) { $s }", "func ( a $t ) $t { $s ; return $e }", "func ( ) { $s \n $s } ( )"}
}

func declForms() []string {
	return []string{
		"var a $t", "var a = $e", "var a $t = $e", "const a = $e", "const a $t = $e", "const a $t", "type T $t", "type T $p $t",
		"type T [ P $c ] $t", "type T [ n ] $t",
		"type T [ 2 ] $t", "type T [ $e ] $t", "type T = $t", "type T [ P $c , Q $c ] [ P ] $t",
		"func f ( ) { }", "func f ( ) { $s }", "func f ( a $t ) { }", "func f ( a $t , _ $t , ) $t { $s ; $s }", "func f $p ( ) { $s }",
		"func f [ P $c ] ( a $t ) $t { return $e }", "func $r m ( ) { }", "func $r m ( a $t ) $t { $s \n $s }", "func ( r T ) m $p ( ) { }",
		"func f ( $t ) { }", "func f ( )",
		"func f ( ) ( $t ) { }", "func f ( ) ( $t , $t ) { }", "func f ( a , b $t ) { }",
	}
}

// filled fills the holes of a form, one behind the other.
func filled(form string, filling func(hole string) string) string {
	words := strings.Split(form, " ")
	for i, word := range words {
		if strings.HasPrefix(word, "$") {
			words[i] = filling(word)
		}
	}
	return strings.Join(words, " ")
}

func simplest(hole string) string {
	return map[string]string{"$d": "var x T", "$i": "import \"a\"", "$p": "[ P C ]", "$c": "C", "$r": "( r T )", "$e": "x", "$t": "T",
		"$s": "x ( )"}[hole]
}

// beyondGo tells whether a tree has what Go's own reader refuses or takes for something else, but the grammar has: arguments
// in brackets that are no types, behind the first; a type that is asked for its type, or stands in brackets ahead of a
// block; a `defer` of what is no call; a local type with a length that might be a type parameter; type parameters that
// might be a length.
func beyondGo(n api.Node) bool {
	switch n.Kind {
	case api.NIndex:
		for _, argument := range n.Kids[min(2, len(n.Kids)):] {
			if _, ok := parseexpr.Type([]byte(syntax.Print(argument))); !ok {
				return true
			}
		}
	case api.NAssert, api.NParen:
		switch n.Kids[0].Kind {
		case api.NSlice, api.NArray, api.NMap, api.NFuncType, api.NStruct:
			return true
		}
	case api.NType:
		if n.Kids[1].Kind == api.NArray && n.Kids[1].Kids[0].Kind != api.NName && n.Kids[1].Kids[0].Kind != api.NInt {
			return true
		}
		if len(n.Kids[0].Kids) > 0 && mightBeLength(n.Kids[0].Kids[0].Kids[0]) {
			return true
		}
	}
	return slices.ContainsFunc(n.Kids, beyondGo)
}

// mightBeLength tells whether a constraint behind a name might be the rest of an expression.
func mightBeLength(constraint api.Node) bool {
	for len(constraint.Kids) > 0 && (constraint.Kind == api.NInterface || constraint.Kind == api.NUnion) {
		constraint = constraint.Kids[0]
	}
	return constraint.Kind == api.NStar || constraint.Kind == api.NParen
}

// expectLikeGo asks that a source is read as Go's own reader reads it, and so is the text of its tree; it tells whether it
// is read.
func expectLikeGo(t *testing.T, source string) bool {
	t.Helper()
	n, at, ok := parsefile.File([]byte(source))
	want, wanted := goFile(source)
	if (ok != wanted || fmt.Sprint(n) != fmt.Sprint(want)) && !(ok && beyondGo(n)) {
		t.Errorf("P9.1: %q is read as %s, %t, not as %s, %t", source, toldPlaces(n), ok, toldPlaces(want), wanted)
	}
	if ok {
		expectBack(t, n)
		expectShape(t, source, n)
	} else {
		expectNone(t, source)
	}
	if ok && at != 0 {
		t.Errorf("P9.1: beside the tree of %q stands a place, %d", source, at)
	}
	return ok
}

// Each form in each hole of each declaration.
func TestFormsInsideForms(t *testing.T) {
	good, all := 0, 0
	for _, form := range declForms() {
		holes := strings.Count(form, "$")
		for hole := range max(1, holes) {
			for _, kind := range []string{"$p", "$c", "$r", "$e", "$t", "$s"} {
				for _, inner := range forms(kind) {
					seen, used := 0, holes == 0
					source := filled(form, func(found string) string {
						seen++
						if seen != hole+1 || found != kind {
							return simplest(found)
						}
						used = true
						return filled(inner, simplest)
					})
					if !used {
						continue
					}
					all++
					if expectLikeGo(t, "package p ; "+source) {
						good++
					}
				}
			}
		}
	}
	if good < all/2 || all < 500 {
		t.Errorf("only %d of %d are read", good, all)
	}
}

// grower makes texts of forms inside forms, as random says.
type grower struct{ random *rand.Rand }

func (g grower) one(list []string) string { return list[g.random.Intn(len(list))] }

func (g grower) text(hole string, depth int) string {
	if depth == 0 {
		return simplest(hole)
	}
	return filled(g.one(forms(hole)), func(hole string) string { return g.text(hole, depth-1) })
}

func (g grower) end() string {
	return g.one([]string{" ; ", " \n ", " ; \n ", " \n \n ", " // c \n ", " ; ", " \n ", " /* c */ ; ", " \n ",
		" ; ; "}[:8+g.random.Intn(10)/9*2])
}

// file is a package's clause, some imports and some declarations.
func (g grower) file(depth int) string {
	text := "package p" + g.end()
	for range g.random.Intn(3) {
		text += g.text("$i", 1) + g.end()
	}
	for range g.random.Intn(4) {
		text += g.text("$d", depth) + g.end()
	}
	return text
}

// spoiled is a text with some tokens left out, put in, changed, or changed about.
func (g grower) spoiled(text string) string {
	tokens := strings.Split("a b T 1 ( ) [ ] { } , ; . * ~ | = : := var const type func import package struct interface \"a\" \n $d $i $p $c $r $t", " ")
	words := strings.Split(text, " ")
	for range 1 + g.random.Intn(2) {
		i := g.random.Intn(len(words))
		put := filled(g.one(tokens), func(hole string) string { return g.text(hole, 1) })
		switch g.random.Intn(4) {
		case 0:
			words[i] = put
		case 1:
			words = slices.Insert(words, i, put)
		case 2:
			words[i] = ""
		case 3:
			j := g.random.Intn(len(words))
			words[i], words[j] = words[j], words[i]
		}
	}
	return strings.Join(words, " ")
}

func TestRandomTexts(t *testing.T) {
	g := grower{rand.New(rand.NewSource(91))}
	whole, spoiled := 0, 0
	const many = 8000
	for range many {
		text := g.file(1 + g.random.Intn(4))
		if expectLikeGo(t, text) {
			whole++
		}
		for range 3 {
			if expectLikeGo(t, g.spoiled(text)) {
				spoiled++
			}
		}
	}
	if whole < many/4 || spoiled < many/10 {
		t.Errorf("only %d and %d of %d are read", whole, spoiled, many)
	}
}

func TestRandomTokens(t *testing.T) {
	g := grower{rand.New(rand.NewSource(92))}
	tokens := strings.Split("a b P T 1 ( ) ( ) [ ] [ ] { } { } , ; . * ~ | = := func struct interface map \n var type const import \"a\"",
		" ")
	good := 0
	const many = 150000
	for range many {
		var words []string
		for range g.random.Intn(7) {
			words = append(words, g.one(tokens))
		}
		ahead := g.one([]string{"", "package p ;", "package p ; var a", "package p ; const a", "package p ; type T",
			"package p ; type T [ P", "package p ; func", "package p ; func f",
			"package p ; func ( r", "package p ; func f [ P", "package p ; func f (", "package p ; import"})
		if expectLikeGo(t, ahead+" "+strings.Join(words,
			" ")+g.one([]string{"", " T", " ( ) { }", " ) { }", " ] T", " { }", " ) m ( ) { }"})) {
			good++
		}
	}
	if good < many/100 {
		t.Errorf("only %d of %d are read", good, many)
	}
}

// Any bytes are read or not, but never panicked at.
func TestRandomBytes(t *testing.T) {
	random := rand.New(rand.NewSource(93))
	for range 20000 {
		src := make([]byte, random.Intn(16))
		for i := range src {
			src[i] = byte(random.Intn(256))
			if random.Intn(8) > 0 {
				src[i] = "ab1(){}[].,;:=+*&-\"` \n~|"[random.Intn(24)]
			}
		}
		for _, ahead := range []string{"", "package ", "package p;", "package p; var x ", "package p; type T", "package p; func ",
			"package p; func f"} {
			source := ahead + string(src)
			if _, at, ok := parsefile.File([]byte(source)); ok {
				if at != 0 {
					t.Errorf("P9.1: %q: %d", source, at)
				}
			} else {
				expectNone(t, source)
			}
		}
	}
}
