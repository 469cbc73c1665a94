package typeset_test

import (
	"testing"

	"sterling/api"
	"sterling/typeset"
)

func TestTermsOfPlainInterfaces(t *testing.T) {
	w := declared(t, "type My int; type Other My; type Words string; type List []int; type Pair[A any, B any] struct{a A; b B}")
	w.expectTerms(t, map[string]string{
		"interface{}":                   "all",
		"any":                           "all",
		"interface{M()}":                "all",
		"interface{M(); N(int) string}": "all",
		"interface{int}":                "int",
		"interface{~int}":               "~int",
		"interface{My}":                 "p.My",
		"interface{M(); int}":           "int",
		"interface{int | string}":       "int | string",
		// Those without Tilde come first, each by their texts.
		"interface{string | int}":                              "int | string",
		"interface{~string | ~int | ~bool}":                    "~bool | ~int | ~string",
		"interface{~float64 | string | ~bool | int | []int}":   "[]int | int | string | ~bool | ~float64",
		"interface{~int | My | Words | *int | map[int]string}": "*int | map[int]string | p.Words | ~int",
		"interface{struct{a int} | func() int | [2]int}":       "[2]int | func() int | struct{a int}",
		// A declared type is told with what is beneath it, if it has a Tilde.
		"interface{~My}":                     "~int",
		"interface{~Other}":                  "~int",
		"interface{~List}":                   "~[]int",
		"interface{~List | ~Words}":          "~[]int | ~string",
		"interface{~Pair[int, string]}":      "~struct{a int;b string}",
		"interface{Pair[int, string]}":       "p.Pair[int,string]",
		"interface{~[]My}":                   "~[]p.My",
		"interface{~Pair[My, Pair[My,int]]}": "~struct{a p.My;b p.Pair[p.My,int]}",
	})
}

func TestTermsInOneAnother(t *testing.T) {
	w := declared(t, "type My int; type Other My; type Words string; type Box[A any] struct{a A}")
	w.expectTerms(t, map[string]string{
		"interface{int | int}":                  "int",
		"interface{~int | ~int}":                "~int",
		"interface{int | ~int}":                 "~int",
		"interface{~int | int}":                 "~int",
		"interface{My | ~int}":                  "~int",
		"interface{~int | My | Other}":          "~int",
		"interface{~My | My}":                   "~int",
		"interface{My | ~Other}":                "~int",
		"interface{~My | ~Other | ~int | int}":  "~int",
		"interface{My | int | Other}":           "int | p.My | p.Other",
		"interface{My | My}":                    "p.My",
		"interface{string | My | ~int}":         "string | ~int",
		"interface{~string | My | Words | int}": "int | p.My | ~string",
		"interface{[]int | ~[]My | []My}":       "[]int | ~[]p.My",
		"interface{Box[int] | ~struct{a int}}":  "~struct{a int}",
		"interface{Box[int] | ~struct{a My}}":   "p.Box[int] | ~struct{a p.My}",
		"interface{Box[int] | ~Box[My]}":        "p.Box[int] | ~struct{a p.My}",
		"interface{Box[int] | ~Box[int]}":       "~struct{a int}",
		"interface{Box[int] | Box[int]}":        "p.Box[int]",
	})
}

func TestTermsOfSeveralUnions(t *testing.T) {
	w := declared(t, "type My int; type Other My; type Words string; type Box[A any] struct{a A}")
	w.expectTerms(t, map[string]string{
		"interface{int; int}":                                 "int",
		"interface{int; ~int}":                                "int",
		"interface{~int; int}":                                "int",
		"interface{~int; ~int}":                               "~int",
		"interface{~int; My}":                                 "p.My",
		"interface{My; ~Other}":                               "p.My",
		"interface{~My; ~Other}":                              "~int",
		"interface{int; string}":                              "",
		"interface{int; My}":                                  "",
		"interface{~int; ~string}":                            "",
		"interface{~int; string}":                             "",
		"interface{My; Other}":                                "",
		"interface{My; ~string}":                              "",
		"interface{int | string; string | bool}":              "string",
		"interface{~int | string; ~string | My}":              "p.My | string",
		"interface{~int | ~string; My | Words | bool}":        "p.My | p.Words",
		"interface{My | Words | bool; ~int | ~string}":        "p.My | p.Words",
		"interface{My | Other; ~int}":                         "p.My | p.Other",
		"interface{~int | My; My | Other; Other | int}":       "p.Other",
		"interface{~int | ~string; ~string | ~bool; ~string}": "~string",
		"interface{int | string; bool; int}":                  "",
		"interface{int; string; int}":                         "",
		"interface{M(); int | string; N(); string | bool}":    "string",
		"interface{~Box[int]; Box[int] | Box[My]}":            "p.Box[int]",
		"interface{~int | int | My; My | int | ~My}":          "~int",
		"interface{int | My | ~string; ~int | Words}":         "int | p.My | p.Words",
		"interface{Words | ~int; int | My | ~string}":         "int | p.My | p.Words",
	})
}

// Types are told by what they are, not by how it is written.
func TestTermsOfTypesThatAreEq(t *testing.T) {
	w := declared(t, "type A []interface{int | string; bool}; type B []interface{bool; string | int | string}")
	w.expectTerms(t, map[string]string{
		"interface{[]interface{int | string} | []interface{string | int}}":      "[]interface{int|string}",
		"interface{[]interface{int | string}; []interface{string | int | int}}": "[]interface{int|string}",
		"interface{~A | ~B}": "~[]interface{bool;int|string}",
		"interface{A | ~B}":  "~[]interface{bool;int|string}",
		"interface{~A; ~B}":  "~[]interface{bool;int|string}",
		"interface{A; ~B}":   "p.A",
		"interface{[]interface{int; string}; []interface{int | string}}": "",
	})
}

// An interface with a method that is called `func` has the text of a union of one function.
func TestTermsOfOneText(t *testing.T) {
	method := interfaceOf("func", function(void))
	union := sets(terms(only(function(void))))
	w := declared(t, "")
	for want, x := range map[string]api.Type{
		"[]interface{func()} | []interface{func()}": sets(terms(only(slice(method)), only(slice(union)))),
		"":                     sets(terms(only(slice(method))), terms(only(slice(union)))),
		"~[]interface{func()}": sets(terms(tilde(slice(method)), only(slice(method)))),
		"[]interface{func()} | ~[]interface{func()}": sets(terms(tilde(slice(method)), only(slice(union)))),
	} {
		expectMay(t, x)
		if got := tellTerms(w.Env, x); got != want {
			t.Errorf("P14.1: Terms are %s, not %s", got, want)
		}
	}
}

// Unions that L6 rules out hold what is said of theirs, as others do.
func TestTermsOfInterfacesAndParameters(t *testing.T) {
	w := declared(t, `
		type Face interface{M()}
		type Loop Loop
		type To Fro
		type Fro To
		func further[P any, Q ~int]() {}`)
	w.expectTerms(t, map[string]string{
		"interface{P}":                      "$1:P",
		"interface{~P}":                     "~$1:P",
		"interface{P | ~P}":                 "~$1:P",
		"interface{P | Q | int}":            "$1:P | $1:Q | int",
		"interface{P; Q}":                   "",
		"interface{P; P | int}":             "$1:P",
		"interface{Q; ~int}":                "",
		"interface{Face | int}":             "int | p.Face",
		"interface{Face | interface{M()}}":  "interface{M()} | p.Face",
		"interface{~interface{M()} | Face}": "~interface{M()}",
		"interface{error | comparable}":     "comparable | error",
		"interface{~Face}":                  "~interface{M()}",
		"interface{~comparable; any | int}": "interface{}",
		// Nothing is beneath these.
		"interface{Loop}":                          "p.Loop",
		"interface{~Loop}":                         "",
		"interface{~Loop | int}":                   "int",
		"interface{Loop | ~Loop}":                  "p.Loop",
		"interface{To | Fro}":                      "p.Fro | p.To",
		"interface{Loop | ~int; ~int | Loop | To}": "p.Loop | ~int",
	})
}

func TestTermsOfNoSet(t *testing.T) {
	w := declared(t, "type My int; type Rows struct{a int}; type At *int; type Box[A any] struct{a A}; type Loop Loop; type F func()")
	w.expectTerms(t, map[string]string{
		"int": "no set", "bool": "no set", "float32": "no set", "My": "no set", "Rows": "no set", "At": "no set", "Box[any]": "no set",
		"[]any": "no set", "*error": "no set", "[2]int": "no set", "map[int]any": "no set", "func() any": "no set", "F": "no set",
		"struct{a any}": "no set", "struct{error}": "no set", "Loop": "no set", "*comparable": "no set",
	})
	for _, x := range []api.Type{null, void, whole, {}, of(99), of(-1)} {
		if got := tellTerms(w.Env, x); got != "no set" {
			t.Errorf("P14.1: Terms of Kind %d are %s", x.Kind, got)
		}
		if got := tellMethods(w.Env, x); got != "no set" {
			t.Errorf("P14.1: Methods of Kind %d are %s", x.Kind, got)
		}
	}
}

// manyTerms is a union of arrays of lengths that rise by a step.
func manyTerms(count, step int, isTilde bool) []api.Term {
	var all []api.Term
	for i := range count {
		all = append(all, api.Term{Tilde: isTilde, Type: array(i*step, integer)})
	}
	return all
}

func TestTermsAreMany(t *testing.T) {
	one := sets(manyTerms(2000, 2, false))
	two := api.Decl{Name: "p.Two", Under: sets(manyTerms(2000, 3, true))}
	w := declared(t, "", two)
	expectMay(t, one)
	both := sets(terms(only(one)), terms(only(named("p.Two"))))
	list, isAll, isSet := typeset.Terms(w.Env, both)
	if len(list) != 667 || isAll || !isSet {
		t.Fatalf("P14.1: %d terms, %v, %v", len(list), isAll, isSet)
	}
	for length := 0; length < 6000; length += 50 {
		want := length%6 == 0 && length < 4000
		if typeset.Satisfies(w.Env, array(length, integer), both) != want {
			t.Errorf("P14.2: an array of %d satisfies: %v", length, !want)
		}
	}
}

// So many unions, each of a type of its own, meet in nothing; all of one, in that.
func TestUnionsAreMany(t *testing.T) {
	x, y := api.Type{Kind: api.KInterface}, api.Type{Kind: api.KInterface}
	for i := range 1300 {
		x.Sets = append(x.Sets, terms(only(array(i, integer))))
		y.Sets = append(y.Sets, terms(tilde(integer), only(array(i, integer))))
	}
	for want, asked := range map[string]api.Type{"": x, "~int": y} {
		expectMay(t, asked)
		if got := tellTerms(nil, asked); got != want {
			t.Errorf("P14.1: Terms of many unions are %.100s, not %s", got, want)
		}
	}
}
