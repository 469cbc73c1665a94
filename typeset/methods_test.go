package typeset_test

import (
	"testing"

	"sterling/api"
	"sterling/types"
	"sterling/typeset"
)

func TestMethods(t *testing.T) {
	w := declared(t, `
		type My int
		type Namer interface{Name() string}
		type Pair[A any, B any] interface{M(A) B}
		type Wide interface{Z(); Namer; Pair[int, My]; ~int}
		type Deep interface{interface{interface{Wide; A()}; B()}; error}
		type Same Wide
		type Fault error
		type Eqs interface{M(interface{int | string}); N()}
		type Eqt interface{M(interface{string | int}); O()}
		type Is[A any] interface{A; X()}
		type Clash interface{Namer; interface{Name() int}}
		type ToClash interface{B(); Clash}
		func (m My) Own() {}
		func further[P Wide, Q Pair[P, int], R interface{int}, S Clash, T My]() {}`)
	w.expectMethods(t, map[string]string{
		"any":            "",
		"interface{int}": "",
		"interface{M()}": "M()",
		"interface{A(); B(int, string) bool; M() My}": "A(); B(int,string) bool; M() p.My",
		"interface{_A(); a(); b()}":                   "_A(); a(); b()",
		"error":                                       "Error() string",
		"Fault":                                       "Error() string",
		"comparable":                                  "",
		"Namer":                                       "Name() string",
		"Pair[My,[]int]":                              "M(p.My) []int",
		"Wide":                                        "M(int) p.My; Name() string; Z()",
		"Same":                                        "M(int) p.My; Name() string; Z()",
		"Deep":                                        "A(); B(); Error() string; M(int) p.My; Name() string; Z()",
		"interface{Z(); Wide}":                        "M(int) p.My; Name() string; Z()",
		"interface{Wide; Namer; Same}":                "M(int) p.My; Name() string; Z()",
		"interface{Pair[int,My]; Pair[int,My]}":       "M(int) p.My",
		"Is[error]":                                   "Error() string; X()",
		"Is[Is[Wide]]":                                "M(int) p.My; Name() string; X(); Z()",
		"Is[int]":                                     "X()",
		// Of a type parameter they are those of its constraint's set.
		"P": "M(int) p.My; Name() string; Z()",
		"Q": "M($1:P) int",
		"R": "",
		"T": "",
		// The types of one name are Eq, however they are written.
		"interface{Eqs; Eqt}": "M(interface{int|string}); N(); O()",
		"interface{Eqt; Eqs}": "M(interface{int|string}); N(); O()",
		// These are not.
		"Clash":                                 "no set",
		"ToClash":                               "no set",
		"S":                                     "no set",
		"Is[Clash]":                             "no set",
		"interface{Name(); Namer}":              "no set",
		"interface{M(); Wide}":                  "no set",
		"interface{Pair[int,My]; Pair[My,int]}": "no set",
		"interface{Namer; Name(string) string}": "no set",
		"interface{error; Error() My}":          "no set",
		// These have no set.
		"int": "no set", "My": "no set", "*Namer": "no set", "[]error": "no set", "struct{error}": "no set", "func()": "no set", "map[int]error": "no set",
	})
	// A union of methods that clash is told, for all that.
	w.expectTerms(t, map[string]string{"Clash": "all", "interface{Clash; int}": "int"})
}

// A method may be called `func`: types that are not Eq may have one text.
func TestMethodsOfOneText(t *testing.T) {
	called, given := interfaceOf("func", function(void)), sets(terms(only(function(void))))
	method := func(x api.Type) api.Type { return interfaceOf("M", function(void, x)) }
	for why, x := range map[string]struct {
		t    api.Type
		want string
	}{
		"the same": {sets(terms(only(method(called))), terms(only(method(called)))), "M(interface{func()})"},
		"others":   {sets(terms(only(method(called))), terms(only(method(given)))), "no set"},
	} {
		if got := tellMethods(nil, x.t); got != x.want {
			t.Errorf("P14.1: Methods of %s are %s", why, got)
		}
	}
	// As arguments, too.
	w := declared(t, "type Of[A any] interface{M(A)}; type Two interface{Is[int]}; type Is[A any] interface{}")
	x := sets(terms(only(named("p.Of", called))), terms(only(named("p.Of", given))))
	if got := tellMethods(w.Env, x); got != "no set" {
		t.Errorf("P14.1: Methods of others as arguments are %s", got)
	}
}

func TestMethodsAreMany(t *testing.T) {
	x := api.Type{Kind: api.KInterface}
	for i := range 1000 {
		x.Names = append(x.Names, string([]byte{'A' + byte(i/100), '0' + byte(i/10%10), '0' + byte(i%10)}))
		x.Args = append(x.Args, function(array(i, integer)))
	}
	expectMay(t, x)
	names, sigs, isSet := typeset.Methods(nil, sets(terms(only(interfaceOf("E55", function(array(455, integer))))), terms(only(x))))
	if !isSet || len(names) != 1000 || len(sigs) != 1000 {
		t.Fatalf("P14.1: %d methods, %d types, %v", len(names), len(sigs), isSet)
	}
	for i := range names {
		if names[i] != x.Names[i] || !types.Eq(sigs[i], x.Args[i]) {
			t.Fatalf("P14.1: method %d is %s %s", i, names[i], types.Text(sigs[i]))
		}
	}
}

func TestConstraint(t *testing.T) {
	w := declared(t, `
		type My int
		type Num interface{~int | string}
		type One interface{int}
		type Deep interface{M(); interface{interface{Num}}}
		type Same Num
		type Key comparable
		type Keys interface{comparable}
		type DeepKeys interface{M(); interface{Keys}}
		type SameKeys Keys
		type Face interface{M()}
		type Faces interface{Face; interface{error; any}; Key}
		type Of[A any] interface{~[]A}
		type Is[A any] interface{A}
		type Has[A any] interface{M(A)}
		type Empty interface{int; string}
		type To Num
		func further[P any, Q Num, R comparable, S int, T Deep]() {}`)
	w.expectConstraint(t, true, "Num", "One", "Deep", "Same", "To", "Keys", "DeepKeys", "SameKeys", "Of[int]", "Is[int]", "Is[Num]", "Is[comparable]", "Empty", "comparable",
		"interface{comparable}", "interface{interface{comparable}}", "interface{Keys}", "interface{int}", "interface{~int}", "interface{int | string}", "interface{P}", "interface{~Face}",
		"interface{M(); My}", "interface{Face; Num}", "interface{[]Num}", "interface{interface{interface{interface{[]int}}}}", "interface{Face | error}", "interface{comparable | int}", "interface{~any}",
		"interface{*comparable}", "interface{My}")
	w.expectConstraint(t, false, "any", "error", "Face", "Faces", "Key", "Has[Num]", "Has[comparable]", "Is[Face]", "Is[Is[error]]", "interface{}", "interface{M()}", "interface{Key}", "interface{Face}",
		"interface{interface{}}", "interface{M(Num) comparable}", "interface{Faces; error}", "interface{Is[Key]}",
		"int", "My", "*Num", "[]comparable", "struct{comparable}", "func(Num)", "map[int]Num", "[1]Num", "P", "Q", "R", "S", "T", "None", "interface{None}", "[]None")
	for _, x := range []api.Type{null, void, whole, {}, named("p.Of"), named("p.Num", integer), {Kind: api.KInterface, Len: 1}} {
		if typeset.Constraint(w.Env, x) {
			t.Errorf("P14.1: Kind %d, %q, is a constraint", x.Kind, x.Name)
		}
	}
}
