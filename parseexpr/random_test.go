package parseexpr_test

import (
	"fmt"
	"math/rand"
	"slices"
	"strings"
	"testing"

	"sterling/api"
	"sterling/parseexpr"
	"sterling/syntax"
)

// Forms are texts with holes: $e for an expression, $t for a type.

func exprForms() []string {
	forms := []string{
		"a", "_", "1", ".5", `"s"`, "`r`", "$t", "( $e )", "( $t )", "$e . b", "$e . ( $t )", "$e [ $e ]", "$e [ $t , ]", "$e [ $t , $t ]",
		"$e ( )", "$e ( $e )", "$e ( $t , $e , )",
		"$e ( $e ... )", "$e ( $e , $e ... , )", "T { }", "T { $e , $e }", "p . T { $e : $e , }", "T [ $t ] { $e : $e , $e }",
		"[ ] $t { $e }", "[ $e ] $t { $e : $e }", "map [ $t ] $t { $e : $e }", "struct { a $t ; } { $e }", "$t { $e }", "$t ( $e )",
		"$e \n", "$e ;",
	}
	for _, op := range strings.Fields("* / % & &^ + - | ^ == != < <= > >= && ||") {
		forms = append(forms, "$e "+op+" $e", "$e "+op+" \n $e "+op+" $e")
	}
	for _, op := range strings.Fields("+ - ! ^ & *") {
		forms = append(forms, op+" $e")
	}
	return forms
}

func typeForms() []string {
	return []string{
		"T", "p . T", "T [ $t ]", "p . T [ $t , $t , ]", "[ $e ] $t", "[ ] $t", "* $t", "map [ $t ] $t", "( $t )", "func ( )",
		"func ( ) $t", "func ( $t )", "func ( $t , $t , ) $t", "func ( a $t )", "func ( a $t , _ $t , ) $t", "func ( a [ $e ] $t )",
		"func ( T [ $t ] , $t )",
		"struct { }", "struct { a $t }", "struct { a $t ; b ; p . T ; }", "struct { * T \n * p . T \n _ $t \n }", "interface { }",
		"interface { m ( ) }", "interface { m ( $t ) $t ; n ( a $t ) ; $t ; }", "interface { $t }", "interface { ~ $t }",
		"interface { $t | ~ $t | $t \n m ( ) $t }",
	}
}

// filled fills the holes of a form, one behind the other.
func filled(form string, filling func(hole string) string) string {
	words := strings.Split(form, " ")
	for i, word := range words {
		if word == "$e" || word == "$t" {
			words[i] = filling(word)
		}
	}
	return strings.Join(words, " ")
}

func simplest(hole string) string { return map[string]string{"$e": "x", "$t": "T"}[hole] }

func formsOf(hole string) []string {
	if hole == "$t" {
		return typeForms()
	}
	return exprForms()
}

// beyondGo tells whether a tree has what Go's own reader refuses, but the grammar has: arguments in brackets that are no
// types, behind the first, and an assertion of a type.
func beyondGo(n api.Node) bool {
	switch n.Kind {
	case api.NIndex:
		for _, argument := range n.Kids[min(2, len(n.Kids)):] {
			if !isType(argument) {
				return true
			}
		}
	case api.NAssert:
		switch n.Kids[0].Kind {
		case api.NSlice, api.NArray, api.NMap, api.NFuncType:
			return true
		}
	}
	return slices.ContainsFunc(n.Kids, beyondGo)
}

func isType(n api.Node) bool {
	_, ok := parseexpr.Type([]byte(syntax.Print(n)))
	return ok
}

// expectLikeGo asks that a source is read as Go's own reader reads it, and so is the text of its tree; it tells whether it
// is read.
func expectLikeGo(t *testing.T, source string) bool {
	t.Helper()
	n, ok := parseexpr.Expr([]byte(source))
	m, fine := parseexpr.Type([]byte(source))
	want, wanted := goTree(source, false)
	only, alone := goTree(source, true)
	if (ok != wanted || fmt.Sprint(n) != fmt.Sprint(want)) && !(ok && beyondGo(n)) {
		t.Errorf("P7.1: %q is read as %v, %t, not as %v, %t", source, n, ok, want, wanted)
	}
	if fine != alone || fmt.Sprint(m) != fmt.Sprint(only) {
		t.Errorf("P7.1: as a type, %q is read as %v, %t, not as %v, %t", source, m, fine, only, alone)
	}
	if ok {
		expectBack(t, parseexpr.Expr, n)
		expectPlaces(t, source, n)
	}
	if fine {
		expectBack(t, parseexpr.Type, m)
	}
	return ok
}

// Each form in each hole of each other one.
func TestFormsInsideForms(t *testing.T) {
	good, all := 0, 0
	for _, form := range append(exprForms(), typeForms()...) {
		for hole := range 3 {
			for _, inner := range append(exprForms(), typeForms()...) {
				seen := 0
				source := filled(form, func(kind string) string {
					seen++
					if seen != hole+1 || !slices.Contains(formsOf(kind), inner) {
						return simplest(kind)
					}
					return filled(inner, simplest)
				})
				all++
				if expectLikeGo(t, source) {
					good++
				}
			}
		}
	}
	if good < all*4/5 {
		t.Errorf("only %d of %d are read", good, all)
	}
}

// grower makes texts of forms inside forms, as random says.
type grower struct{ random *rand.Rand }

func (g grower) one(list []string) string { return list[g.random.Intn(len(list))] }

func (g grower) text(hole string, depth int) string {
	if depth == 0 {
		return simplest(hole)
	}
	return filled(g.one(formsOf(hole)), func(hole string) string { return g.text(hole, depth-1) })
}

// spoiled is a text with some tokens left out, put in, or changed.
func (g grower) spoiled(text string) string {
	tokens := strings.Split("a b T 1 .5 \"s\" ( ) ( ) [ ] [ ] { } , , ; . . + - * * & ^ ! ~ | == && || : ... func func struct interface map \n \n", " ")
	words := strings.Split(text, " ")
	for range 1 + g.random.Intn(2) {
		i := g.random.Intn(len(words))
		switch g.random.Intn(4) {
		case 0:
			words[i] = g.one(tokens)
		case 1:
			words = slices.Insert(words, i, g.one(tokens))
		case 2:
			words[i] = ""
		case 3:
			j := g.random.Intn(len(words))
			words[i], words[j] = words[j], words[i]
		}
	}
	return strings.Join(words, " ")
}

func TestRandomTexts(t *testing.T) {
	g := grower{rand.New(rand.NewSource(71))}
	whole, spoiled := 0, 0
	const many = 20000
	for range many {
		text := g.text(g.one([]string{"$e", "$t"}), 1+g.random.Intn(4))
		if expectLikeGo(t, text) {
			whole++
		}
		if expectLikeGo(t, g.spoiled(text)) {
			spoiled++
		}
	}
	if whole < many/3 || spoiled < many/20 {
		t.Errorf("only %d and %d of %d are read", whole, spoiled, many)
	}
}

func TestRandomTokens(t *testing.T) {
	g := grower{rand.New(rand.NewSource(72))}
	tokens := strings.Fields("a b T 1 ( ) ( ) [ ] [ ] { } , . + - * & ! ~ | : ... func struct interface map")
	good := 0
	const many = 100000
	for range many {
		var words []string
		for range 1 + g.random.Intn(7) {
			words = append(words, g.one(tokens))
		}
		if expectLikeGo(t, strings.Join(words, " ")) {
			good++
		}
	}
	if good < many/100 {
		t.Errorf("only %d of %d are read", good, many)
	}
}

// Any bytes are read or not, but never panicked at.
func TestRandomBytes(t *testing.T) {
	random := rand.New(rand.NewSource(73))
	for range 20000 {
		src := make([]byte, random.Intn(12))
		for i := range src {
			src[i] = byte(random.Intn(256))
			if random.Intn(2) == 0 {
				src[i] = "ab1(){}[].,;*&-\"` \n"[random.Intn(19)]
			}
		}
		for _, read := range []reader{parseexpr.Expr, parseexpr.Type, withBlocks} {
			if n, ok := read(src); !ok && fmt.Sprint(n) != fmt.Sprint(api.Node{}) {
				t.Errorf("P0.2: %q: %s", src, told(n))
			}
		}
	}
}
