package typeset_test

import (
	"testing"

	"sterling/api"
)

// Type parameters have the sets of their constraints. One that is no interface is the union of itself alone.
func TestTermsOfParameters(t *testing.T) {
	w := declared(t, `
		type My int
		type Num interface{~int | ~float64 | string}
		type Of[A any] interface{~[]A | A}
		type Box[A any, B Num, C interface{~[]A | A}, D comparable, E int, F A, G Of[A]] struct{}
		type Face[A Num] interface{A | bool}
		func further[
			P any,
			Q Num,
			R interface{~int; My},
			S int,
			T My,
			U []P,
			V P,
			W comparable,
			X interface{int; string},
			Y Of[P],
			Z interface{M(); Num; comparable},
			AA error,
			BB V,
			CC CC,
			DD EE,
			EE DD,
			FF ~My,
			GG struct{a GG},
			HH *HH | int]() {}`)
	w.expectTerms(t, map[string]string{
		"P": "all", "Q": "string | ~float64 | ~int", "R": "p.My", "S": "int", "T": "p.My", "U": "[]$1:P", "V": "$1:P", "W": "all", "X": "",
		"Y": "$1:P | ~[]$1:P", "Z": "string | ~float64 | ~int", "AA": "all", "BB": "$1:V", "CC": "$2:CC", "DD": "$2:EE", "EE": "$2:DD", "FF": "~int",
		"GG": "struct{a $2:GG}", "HH": "*$2:HH | int",
		"Box__0": "all", "Box__1": "string | ~float64 | ~int", "Box__2": "$7:p.Box#0 | ~[]$7:p.Box#0", "Box__3": "all", "Box__4": "int", "Box__5": "$7:p.Box#0",
		"Box__6": "$7:p.Box#0 | ~[]$7:p.Box#0", "Of__0": "all", "Face__0": "string | ~float64 | ~int",
		"Face[Q]": "$1:Q | bool", "Of[Q]": "$1:Q | ~[]$1:Q",
	})
	w.expectMethods(t, map[string]string{
		"P": "", "Q": "", "S": "", "T": "", "V": "", "W": "", "X": "", "Z": "M()", "AA": "Error() string", "CC": "", "Box__0": "", "Box__4": "",
	})
	for _, name := range []string{"", "I", "p.Box", "p.Box#7", "p.Box#-1", "p.Box#00", "p.None#0", "#0", "error#0"} {
		for _, e := range []world{w, {}} {
			x := param(name)
			if tellTerms(e.Env, x) != "no set" || tellMethods(e.Env, x) != "no set" || tellCore(e.Env, x) != "none" {
				t.Errorf("P14: of a type parameter that is not there, %q: %s, %s, %s", name, tellTerms(e.Env, x), tellMethods(e.Env, x), tellCore(e.Env, x))
			}
		}
	}
}

// Constraints may be of any Kind.
func TestTermsOfConstraintsOfEveryKind(t *testing.T) {
	w := declared(t, "type My int; type Box[A any] struct{a A}; type Loop Loop")
	for want, c := range map[string]api.Type{
		"p.My": w.says(t, "My"), "p.Box[int]": w.says(t, "Box[int]"), "[3]int": array(3, integer), "[]any": {}, "*int": pointer(integer),
		"map[int]string": of(api.KMap, integer, text), "func()": function(void), "struct{a int}": structOf(false, "a", integer),
		"nil": null, "untyped int": whole, "void": void, "p.Loop": named("p.Loop"), "$1:R": param("R"),
	} {
		if c.Kind == api.KNone {
			want, c = "[]interface{}", slice(anything)
		}
		given := world{decls: w.decls, params: []api.Var{{Name: "P", Type: c}}}
		given.make(t)
		if got := tellTerms(given.Env, param("P")); got != want {
			t.Errorf("P14.1: Terms of a type parameter with the constraint %s are %s", want, got)
		}
		if got := tellMethods(given.Env, param("P")); got != "" {
			t.Errorf("P14.1: Methods of a type parameter with the constraint %s are %s", want, got)
		}
	}
}

func TestCore(t *testing.T) {
	w := declared(t, `
		type My int
		type Other My
		type List []int
		type Num interface{~int | ~float64}
		type Box[A any] struct{a A}
		type Loop Loop
		type Self interface{Self}
		type One[A any, B ~[]A, C []A | List, D A] struct{}
		func further[
			A any, B ~int, C Num, D My, E int, F int | My | Other, G ~My | Other, H []int | List, I []int | []My, J interface{~int; string}, K comparable,
			L interface{M()}, M interface{M(); ~[]string}, N Box[int] | struct{a int}, O Box[int] | Box[My], P Loop, Q Loop | int, R ~Loop, S ~Loop | int,
			T A, U *A, V interface{Num; My | string}, W Self, X func(A) | ~func(A), Y interface{[]interface{int | string}; []interface{string | int}},
			Z error, AA error | any, BB Loop | Loop]() {}`)
	w.expectCore(t, map[string]string{
		"A": "none", "B": "int", "C": "none", "D": "int", "E": "int", "F": "int", "G": "int", "H": "[]int", "I": "none", "J": "none", "K": "none", "L": "none",
		"M": "[]string", "N": "struct{a int}", "O": "none", "P": "none", "Q": "none", "R": "none", "S": "int", "T": "$1:A", "U": "*$1:A", "V": "int", "W": "none",
		"X": "func($1:A)", "Y": "[]interface{int|string}", "Z": "none", "AA": "none", "BB": "none",
		"One__0": "none", "One__1": "[]$7:p.One#0", "One__2": "none", "One__3": "$7:p.One#0",
		// Of other types the underlying one is told.
		"int": "int", "string": "string", "My": "int", "Other": "int", "List": "[]int", "[]My": "[]p.My", "Box[My]": "struct{a p.My}", "*My": "*p.My", "error": "interface{Error() string}",
		"comparable": "interface{}", "any": "interface{}", "Num": "interface{~float64|~int}", "Self": "interface{p.Self}", "interface{Self}": "interface{p.Self}", "Loop": "none",
		"[2]Loop": "[2]p.Loop", "map[A]B": "map[$1:A]$1:B", "func()": "func()", "struct{My}": "struct{!My p.My}", "Box[A]": "struct{a $1:A}", "None": "none", "[]None": "none",
	})
	for want, x := range map[string]api.Type{"nil": null, "void": void, "untyped int": whole, "none": {}} {
		if got := tellCore(w.Env, x); got != want {
			t.Errorf("P14.2: Core is %s, not %s", got, want)
		}
	}
}
