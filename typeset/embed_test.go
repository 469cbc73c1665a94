package typeset_test

import (
	"fmt"
	"slices"
	"strings"
	"testing"

	"sterling/api"
	"sterling/env"
	"sterling/typeset"
)

func TestTermsOfEmbedded(t *testing.T) {
	w := declared(t, `
		type My int
		type Num interface{~int | ~float64 | string}
		type Named interface{Name() string}
		type Whole interface{Num; ~int | ~uint | bool}
		type Deep interface{Named; Deeper}
		type Deeper interface{interface{interface{Deepest}}}
		type Deepest interface{My | string | bool; M()}
		type Same Num
		type Sames Same
		type Of[A any] interface{~[]A | A}
		type OfTwo[A any, B any] interface{Of[A]; Of[B] | int; M(A, B)}
		type Through[A any] interface{Of[[]A]; ~[]A | ~[][]A}
		type Is[A any] interface{A}
		type Keys[A comparable] interface{comparable; Of[A]}`)
	w.expectTerms(t, map[string]string{
		"Num":                                "string | ~float64 | ~int",
		"Same":                               "string | ~float64 | ~int",
		"Sames":                              "string | ~float64 | ~int",
		"interface{Num}":                     "string | ~float64 | ~int",
		"interface{Sames}":                   "string | ~float64 | ~int",
		"interface{interface{Num}}":          "string | ~float64 | ~int",
		"interface{interface{int | string}}": "int | string",
		"interface{Num; Num; Same}":          "string | ~float64 | ~int",
		"interface{Named}":                   "all",
		"interface{Named; interface{}; any}": "all",
		"interface{Named; int}":              "int",
		"Whole":                              "~int",
		"interface{Whole; My}":               "p.My",
		"interface{Whole; string}":           "",
		"Deep":                               "bool | p.My | string",
		"Deeper":                             "bool | p.My | string",
		"interface{Deep; Num}":               "p.My | string",
		"interface{Num; interface{Deeper; interface{~int}}}": "p.My",
		"Of[int]":                          "int | ~[]int",
		"Of[My]":                           "p.My | ~[]p.My",
		"interface{Of[int]; Of[[]int]}":    "[]int",
		"interface{Of[int]; Of[My]}":       "",
		"Through[int]":                     "[]int | ~[][]int",
		"interface{Through[My]; Of[[]My]}": "[]p.My | ~[][]p.My",
		"OfTwo[int,int]":                   "int",
		"Keys[int]":                        "int | ~[]int",
		// What is put for a parameter is embedded, if it is an interface.
		"Is[int]":                    "int",
		"Is[Num]":                    "string | ~float64 | ~int",
		"Is[Is[Is[Num]]]":            "string | ~float64 | ~int",
		"Is[error]":                  "all",
		"interface{Is[Num]; Is[My]}": "p.My",
	})
}

func TestTermsOfPredeclared(t *testing.T) {
	w := declared(t, `
		type Fault error
		type Keyed comparable
		type Any any
		type Faulty interface{error}
		type Asking interface{comparable}
		type Again Keyed
		type Both interface{error; comparable; int | []int}`)
	w.expectTerms(t, map[string]string{
		"error": "all", "comparable": "all", "any": "all", "Fault": "all", "Keyed": "all", "Any": "all", "Faulty": "all", "Asking": "all", "Again": "all",
		"interface{error}": "all", "interface{comparable}": "all", "interface{comparable; error; any}": "all",
		// What is not comparable is left out by no union.
		"Both":                              "[]int | int",
		"interface{comparable; []int}":      "[]int",
		"interface{comparable | int}":       "comparable | int",
		"interface{error | int}":            "error | int",
		"interface{comparable; error; int}": "int",
	})
}

func TestTermsOfRings(t *testing.T) {
	w := declared(t, `
		type Self interface{Self}
		type SelfToo interface{M(); ~int; SelfToo}
		type Inner interface{interface{interface{Inner}}}
		type A interface{B; int}
		type B interface{~int; C}
		type C interface{A}
		type ToRing interface{M(); A}
		type Ringed ToRing
		type Grows[P any] interface{Grows[[]P]}
		type Swells[P any] interface{Swells[struct{a P; b P}]}
		type Turns[P any] interface{Turned[*P]}
		type Turned[P any] interface{Turns[P]; ~[]P}
		type Swaps[P any, Q any] interface{Swaps[Q, P]}
		type Stays[P any] interface{Stays[int]; M(P)}
		type Forks[P any] interface{Forks[[]P]; Forks[*P]; int}
		type ToGrown interface{Grows[int]; int}
		type ByType[P any] interface{P}
		type Holder interface{ByType[Holder]}
		type Fine interface{M(Fine) Self; []Self | *Fine}
		type Union interface{Union | int}
		type Tilde interface{~Tilde}
		func further[P Self, Q ToRing, R interface{A}, S Grows[int], U Union]() {}`)
	for _, src := range strings.Fields("Self SelfToo Inner A B C ToRing Ringed Grows[int] Grows[Self] Swells[int] Turns[int] Turned[int] Swaps[int,string] Swaps[int,int]" +
		" Stays[string] Stays[int] Forks[int] ToGrown Holder interface{Self} interface{int;Self} interface{Grows[any]} ByType[Self] ByType[ByType[A]] P Q R S") {
		x := w.says(t, src)
		if got := tellTerms(w.Env, x); got != "no set" {
			t.Errorf("P14.1: Terms(%s) are %s", src, got)
		}
		if got := tellMethods(w.Env, x); got != "no set" {
			t.Errorf("P14.1: Methods(%s) are %s", src, got)
		}
		if typeset.Constraint(w.Env, x) {
			t.Errorf("P14.1: %s is a constraint", src)
		}
		if typeset.Satisfies(w.Env, x, anything) || typeset.Satisfies(w.Env, integer, x) && x.Kind != api.KParam {
			t.Errorf("P14.2: %s satisfies, or is satisfied", src)
		}
		if got := tellCore(w.Env, x); x.Kind == api.KParam && got != "none" {
			t.Errorf("P14.2: Core(%s) is %s", src, got)
		}
	}
	// These only mention such.
	w.expectTerms(t, map[string]string{
		"Fine":                        "*p.Fine | []p.Self",
		"interface{[]Self | *A}":      "*p.A | []p.Self",
		"interface{M(Self)}":          "all",
		"interface{Self | int}":       "int | p.Self",
		"Union":                       "int | p.Union",
		"interface{Union}":            "int | p.Union",
		"U":                           "int | p.Union",
		"interface{Grows[int] | int}": "int | p.Grows[int]",
		"ByType[ByType[int]]":         "int",
		"ByType[[]Self]":              "[]p.Self",
		"ByType[Fine]":                "*p.Fine | []p.Self",
	})
	w.expectMethods(t, map[string]string{"Fine": "M(p.Fine) p.Self", "interface{M(Self)}": "M(p.Self)"})
}

// turning is a type that leads to itself with arguments in another order, which comes back only after so many turns as the
// lengths multiply to.
func turning(lengths ...int) (api.Decl, api.Type) {
	d, x, under := api.Decl{Name: "p.T"}, named("p.T"), named("p.T")
	for _, length := range lengths {
		at := len(d.Params)
		for i := range length {
			d.Params = append(d.Params, anything)
			x.Args = append(x.Args, array(at+i, integer))
			under.Args = append(under.Args, param(fmt.Sprintf("p.T#%d", at+(i+1)%length)))
		}
	}
	d.Under = under
	return d, x
}

// The types on the way are others each time, and don't grow.
func TestTermsOfTurningArguments(t *testing.T) {
	for _, lengths := range [][]int{{1}, {2}, {3, 5, 7}, {2, 3, 5, 7, 11, 13}, {2, 3, 5, 7, 11, 13, 17, 19, 23, 29}} {
		d, x := turning(lengths...)
		next := d.Under
		d.Under = sets(terms(only(next)))
		w := declared(t, "", d)
		if got := tellTerms(w.Env, x); got != "no set" {
			t.Errorf("P14.1: Terms are %s", got)
		}
		d.Under = structOf(false, "a", next)
		if w = declared(t, "", d); typeset.Comparable(w.Env, x) {
			t.Error("P14.2: what holds itself in other orders is comparable")
		}
	}
}

// forks declares types of which each leads to the next one with two kinds of arguments, so that there are twice as many ways
// at each depth.
func forks(count int, under func(a, b api.Type) api.Type) []api.Decl {
	var all []api.Decl
	for i := range count {
		name := fmt.Sprintf("p.F%d", i)
		next, own := fmt.Sprintf("p.F%d", i+1), param(name+"#0")
		d := api.Decl{Name: name, Params: []api.Type{anything}, Under: under(named(next, slice(own)), named(next, pointer(own)))}
		if i == count-1 {
			d.Under = anything
		}
		all = append(all, d)
	}
	return all
}

// What ends by far too many ways is not gone to its end.
func TestForks(t *testing.T) {
	for count, want := range map[int]string{1: "all", 10: "all", 13: "all", 24: "no set"} {
		w := declared(t, "", forks(count, func(a, b api.Type) api.Type { return sets(terms(only(a)), terms(only(b))) })...)
		if got := tellTerms(w.Env, named("p.F0", integer)); got != want {
			t.Errorf("P14.1: Terms of %d forks are %s", count, got)
		}
		w = declared(t, "", forks(count, func(a, b api.Type) api.Type {
			return api.Type{Kind: api.KStruct, Names: []string{"a", "b"}, Emb: []bool{false, false}, Args: []api.Type{a, b}}
		})...)
		if typeset.Comparable(w.Env, named("p.F0", integer)) != (want == "all") {
			t.Errorf("P14.2: Comparable of %d forks is %v", count, want != "all")
		}
	}
}

// One declared type may stand beside itself more often than on one way.
func TestManyInstances(t *testing.T) {
	faces, rows := []api.Decl{}, []api.Decl{}
	allFaces, allRows := anything, api.Type{Kind: api.KStruct}
	for k := range 4 {
		face, row := anything, api.Type{Kind: api.KStruct}
		for i := range 1300 {
			length := array(1300*k+i, integer)
			face.Sets = append(face.Sets, terms(only(named("p.Of", length))))
			row.Names, row.Emb, row.Args = append(row.Names, fmt.Sprintf("f%d", i)), append(row.Emb, false), append(row.Args, named("p.Box", length))
		}
		faces = append(faces, api.Decl{Name: fmt.Sprintf("p.I%d", k), Under: face})
		rows = append(rows, api.Decl{Name: fmt.Sprintf("p.R%d", k), Under: row})
		allFaces.Sets = append(allFaces.Sets, terms(only(named(fmt.Sprintf("p.I%d", k)))))
		allRows.Names, allRows.Emb, allRows.Args = append(allRows.Names, fmt.Sprintf("f%d", k)), append(allRows.Emb, false), append(allRows.Args, named(fmt.Sprintf("p.R%d", k)))
	}
	w := declared(t, "type Of[A any] interface{~[]A | int}; type Box[A any] struct{a A}", append(faces, rows...)...)
	if got := tellTerms(w.Env, allFaces); got != "int" {
		t.Errorf("P14.1: Terms of many instances are %s", got)
	}
	if !typeset.Comparable(w.Env, allRows) {
		t.Error("P14.2: many instances are not comparable")
	}
}

// An interface whose underlying type is too great can't be told, a struct that is so is a term as others are.
func TestTermsOfWhatGrowsTooGreat(t *testing.T) {
	w := declared(t, `
		type First[P any] interface{int; Second[P]}
		type Second[P any] interface{M(P, P, P, P)}
		type Rows[P any] struct{a P; b P; c P; d P}`)
	for count, want := range map[int]string{900: "int", 1010: "int", 1030: "no set", 4000: "no set"} {
		x := function(integer, slices.Repeat([]api.Type{text}, count)...)
		if got := tellTerms(w.Env, named("p.First", x)); got != want {
			t.Errorf("P14.1: Terms of what holds four functions of %d parameters are %s", count, got)
		}
		rows := sets(terms(only(named("p.Rows", x))))
		if got := tellTerms(w.Env, rows); !strings.HasPrefix(got, "p.Rows[func(") {
			t.Errorf("P14.1: Terms of a struct of %d parameters: %.100s", count, got)
		}
		rows.Sets[0][0].Tilde = true
		if got := tellTerms(w.Env, rows); strings.HasPrefix(got, "~struct{a func(") != (want == "int") || got == "no set" {
			t.Errorf("P14.1: Terms of what is beneath a struct of %d parameters: %.100s", count, got)
		}
	}
}

// chain declares interfaces of which each embeds the next one, by as many roads.
func chain(count, roads int, last api.Type) []api.Decl {
	var all []api.Decl
	for i := range count {
		under := api.Type{Kind: api.KInterface}
		for range roads {
			under.Sets = append(under.Sets, terms(only(named(fmt.Sprintf("p.I%d", i+1)))))
		}
		if i == count-1 {
			under = last
		}
		all = append(all, api.Decl{Name: fmt.Sprintf("p.I%d", i), Under: under})
	}
	return all
}

func TestTermsByManyRoads(t *testing.T) {
	last := sets(terms(only(integer), only(text)))
	e, ok := env.New(chain(500, 3, last), nil)
	if !ok {
		t.Fatal("P13.1")
	}
	if got := tellTerms(e, named("p.I0")); got != "int | string" {
		t.Errorf("P14.1: Terms by three roads each are %s", got)
	}
	if !typeset.Constraint(e, named("p.I0")) || !typeset.Satisfies(e, text, named("p.I0")) || typeset.Satisfies(e, basic("bool"), named("p.I0")) {
		t.Error("P14: by three roads each")
	}
}

func TestTermsOfLongChains(t *testing.T) {
	const length = 20000
	for why, last := range map[string]struct {
		t    api.Type
		want string
	}{
		"an end":         {sets(terms(only(integer), tilde(text))), "int | ~string"},
		"no unions":      {anything, "all"},
		"a ring":         {sets(terms(only(named("p.I0")))), "no set"},
		"a small ring":   {sets(terms(only(named(fmt.Sprintf("p.I%d", length-1))))), "no set"},
		"no set":         {integer, "p.I19999"},
		"what no one is": {sets(terms(only(integer)), terms(only(text))), ""},
	} {
		e, ok := env.New(chain(length, 1, last.t), nil)
		if !ok {
			t.Fatal("P13.1")
		}
		if got := tellTerms(e, named("p.I0")); got != last.want {
			t.Errorf("P14.1: Terms behind a long chain to %s are %s, not %s", why, got, last.want)
		}
	}
}

// Interfaces stand in one another as deep as types may be.
func TestTermsOfDeepInterfaces(t *testing.T) {
	x := sets(terms(only(integer)))
	for range api.MaxDepth - 2 {
		x = sets(terms(only(x)), terms(tilde(integer)))
	}
	expectMay(t, x)
	if got := tellTerms(nil, x); got != "int" {
		t.Errorf("P14.1: Terms of a deep interface are %s", got)
	}
	if !typeset.Constraint(nil, x) || !typeset.Satisfies(nil, integer, x) || typeset.Satisfies(nil, text, x) {
		t.Error("P14: of a deep interface")
	}
}
