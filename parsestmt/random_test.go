package parsestmt_test

import (
	"fmt"
	"math/rand"
	"slices"
	"strings"
	"testing"

	"sterling/api"
	"sterling/parseexpr"
	"sterling/parsestmt"
	"sterling/syntax"
)

// Forms are texts with holes: $e for an expression, $t for a type, $s for a statement, $h for a statement of a head.

func forms(hole string) []string {
	switch hole {
	case "$e":
		return exprForms()
	case "$t":
		return []string{"T", "p . T", "[ ] $t", "[ $e ] $t", "* $t", "map [ $t ] $t", "func ( a $t ) $t", "func ( )", "struct { a $t ; b }",
			"interface { m ( ) $t }", "( $t )", "G [ $t ]"}
	case "$h":
		return simpleForms()
	}
	return append(simpleForms(), stmtForms()...)
}

func exprForms() []string {
	return []string{
		"a", "b", "1", `"s"`, "$t", "( $e )", "$e . b", "$e [ $e ]", "$e ( )", "$e ( $e , $e )", "$e ( $e ... )", "$e . ( $t )", "T { $e }",
		"T { $e : $e }", "p . T { }", "G [ $t ] { }",
		"[ ] $t { $e }", "map [ $t ] $t { $e : $e }", "struct { a $t } { $e }", "$e + $e", "$e == $e", "$e && $e", "- $e", "* $e", "& $e",
		"! $e",
		"func ( ) { $s }", "func ( a $t ) $t { $s ; return $e }", "func ( ) { $s \n $s } ( )",
	}
}

func simpleForms() []string {
	list := []string{"$e", "a := $e", "$e ++", "$e --", "f ( $e )"}
	for _, op := range strings.Fields("= += -= *= /= %= &= |= ^= &^=") {
		list = append(list, "$e "+op+" $e")
	}
	return list
}

func stmtForms() []string {
	return []string{
		"", ";", "var a $t", "var a = $e", "var a $t = $e", "const a = $e", "const a $t = $e", "type T $t", "{ }", "{ $s }",
		"{ $s \n $s ; }", "return", "return $e", "break", "break L",
		"continue", "continue L", "defer $e ( )", "if $e { $s }", "if $e { } else { $s }", "if $h ; $e { } else if $e { $s } else { $s }",
		"if $h \n $e { }", "if ; ( $e ) { }",
		"for { $s }", "for $e { $s }", "for ( $e ) { $s }", "for ; $e ; { }", "for ; $e \n { }", "for $h ; $e ; $h { $s }",
		"for $h ; ; { }", "for ; ; $h { $s }", "for $h \n $e \n { $s }",
		"for range $e { $s }", "for a := range $e { }", "for a , _ := range ( $e ) { $s }", "switch { }", "switch $e { }",
		"switch $h \n { }", "switch $h ; $e { case $e , $t : $s ; $s ; case $e : default : $s }",
		"switch { case $e : $s }", "switch ; $e { default : $s ; }", "switch $h ; { case $e : }", "switch $e . ( type ) { case $t : $s }",
		"switch a := $e . ( type ) { case $t , $t : $s \n default : $s ; }", "switch a := ( $e ) . ( type ) { default : }",
		"L : for { $s }", "L : for $e { }", "L : for range $e { }",
		"L : \n switch $e { case $e : $s }", "L : switch $e . ( type ) { }",
	}
}

// filled fills the holes of a form, one behind the other.
func filled(form string, filling func(hole string) string) string {
	words := strings.Split(form, " ")
	for i, word := range words {
		if strings.HasPrefix(word, "$") {
			words[i] = filling(word)
		}
	}
	return strings.Join(words, " ")
}

func simplest(hole string) string {
	return map[string]string{"$e": "x", "$t": "T", "$s": "x ( )", "$h": "x ( )"}[hole]
}

// beyondGo tells whether a tree has what Go's own reader refuses, but the grammar has: arguments in brackets that are no
// types, behind the first; a type that is asked for its type, or stands in brackets ahead of a block; a `defer` of what is
// no call; and a local type with a length that might be a type parameter.
func beyondGo(n api.Node) bool {
	switch n.Kind {
	case api.NIndex:
		for _, argument := range n.Kids[min(2, len(n.Kids)):] {
			if _, ok := parseexpr.Type([]byte(syntax.Print(argument))); !ok {
				return true
			}
		}
	case api.NAssert, api.NTypeSwitch, api.NParen:
		switch n.Kids[0].Kind {
		case api.NSlice, api.NArray, api.NMap, api.NFuncType, api.NStruct:
			return true
		}
	case api.NDefer:
		return n.Kids[0].Kind != api.NCall || slices.ContainsFunc(n.Kids, beyondGo)
	case api.NType:
		if n.Kids[1].Kind == api.NArray {
			length := n.Kids[1].Kids[0].Kind
			return length != api.NName && length != api.NInt
		}
	}
	return slices.ContainsFunc(n.Kids, beyondGo)
}

// expectLikeGo asks that a source is read as Go's own reader reads it, and so is the text of its tree; it tells whether it
// is read.
func expectLikeGo(t *testing.T, source string) bool {
	t.Helper()
	n, ok := parsestmt.Block([]byte(source))
	want, wanted := goBlock(source)
	if (ok != wanted || fmt.Sprint(n) != fmt.Sprint(want)) && !(ok && beyondGo(n)) {
		t.Errorf("P8.1: %q is read as %s, %t, not as %s, %t", source, toldPlaces(n), ok, toldPlaces(want), wanted)
	}
	if ok {
		expectBack(t, n)
		expectPlaces(t, source, n)
	}
	return ok
}

// Each form in each hole of each other one.
func TestFormsInsideForms(t *testing.T) {
	good, all := 0, 0
	for _, form := range append(simpleForms(), stmtForms()...) {
		holes := strings.Count(form, "$")
		for hole := range max(1, holes) {
			for _, kind := range []string{"$e", "$t", "$s", "$h"} {
				for _, inner := range forms(kind) {
					seen, used := 0, holes == 0
					source := filled(form, func(found string) string {
						seen++
						if seen != hole+1 || found != kind {
							return simplest(found)
						}
						used = true
						return filled(inner, simplest)
					})
					if !used {
						continue
					}
					all++
					if expectLikeGo(t, "{ "+source+" }") {
						good++
					}
				}
			}
		}
	}
	if good < all*4/5 || all < 3000 {
		t.Errorf("only %d of %d are read", good, all)
	}
}

// grower makes texts of forms inside forms, as random says.
type grower struct{ random *rand.Rand }

func (g grower) one(list []string) string { return list[g.random.Intn(len(list))] }

func (g grower) text(hole string, depth int) string {
	if depth == 0 {
		return simplest(hole)
	}
	return filled(g.one(forms(hole)), func(hole string) string { return g.text(hole, depth-1) })
}

// block is some statements.
func (g grower) block(depth int) string {
	var list []string
	for range g.random.Intn(4) {
		list = append(list, g.text("$s", depth), g.one([]string{";", "\n", ";", "\n", "; ;", ""}))
	}
	return "{ " + strings.Join(list, " ") + g.one([]string{" }", " }", " }", " } ;", " } \n", " } ; ;"})
}

// spoiled is a text with some tokens left out, put in, or changed.
func (g grower) spoiled(text string) string {
	tokens := strings.Split("a b T 1 ( ) [ ] { } { } , ; ; . . + - * & == : := = += ++ ... func struct if else for "+
		"range switch case default type var const return break continue defer L \n \n", " ")
	words := strings.Split(text, " ")
	for range 1 + g.random.Intn(2) {
		// The first word stays, as the model begins with it.
		i := 1 + g.random.Intn(len(words)-1)
		switch g.random.Intn(4) {
		case 0:
			words[i] = g.one(tokens)
		case 1:
			words = slices.Insert(words, i, g.one(tokens))
		case 2:
			words[i] = ""
		case 3:
			j := 1 + g.random.Intn(len(words)-1)
			words[i], words[j] = words[j], words[i]
		}
	}
	return strings.Join(words, " ")
}

func TestRandomTexts(t *testing.T) {
	g := grower{rand.New(rand.NewSource(81))}
	whole, spoiled := 0, 0
	const many = 8000
	for range many {
		text := g.block(1 + g.random.Intn(4))
		if expectLikeGo(t, text) {
			whole++
		}
		for range 3 {
			if expectLikeGo(t, g.spoiled(text)) {
				spoiled++
			}
		}
	}
	if whole < many/4 || spoiled < many/10 {
		t.Errorf("only %d and %d of %d are read", whole, spoiled, many)
	}
}

func TestRandomTokens(t *testing.T) {
	g := grower{rand.New(rand.NewSource(82))}
	tokens := strings.Split("a b T 1 ( ) [ ] { } { } , ; ; . + - * & == : := = ++ func if else for "+
		"range switch case default type var return break defer \n . ( type )", " ")
	good := 0
	const many = 150000
	for range many {
		var words []string
		for range 1 + g.random.Intn(7) {
			words = append(words, g.one(tokens))
		}
		if expectLikeGo(t, g.one([]string{"{ ", "{ for ", "{ if ", "{ switch ", "{ switch { case ", "{ a "})+strings.Join(words,
			" ")+g.one([]string{" }", " { } }", " } }"})) {
			good++
		}
	}
	if good < many/100 {
		t.Errorf("only %d of %d are read", good, many)
	}
}

// Any bytes are read or not, but never panicked at.
func TestRandomBytes(t *testing.T) {
	random := rand.New(rand.NewSource(83))
	for range 20000 {
		src := make([]byte, random.Intn(16))
		for i := range src {
			src[i] = byte(random.Intn(256))
			if random.Intn(8) > 0 {
				src[i] = "ab1(){}{}{}[].,;:=+*&-\"` \n"[random.Intn(26)]
			}
		}
		for _, read := range []func(src []byte) (api.Node, bool){parsestmt.Block, readWhole} {
			if n, ok := read(src); !ok && fmt.Sprint(n) != fmt.Sprint(api.Node{}) {
				t.Errorf("P0.2: %q: %s", src, told(n))
			}
		}
	}
}
