package env_test

import (
	"fmt"
	"testing"

	"sterling/api"
)

// pair stands for a type of that many types, its two parameters among them.
func pair(name string, count int) api.Decl {
	first, second := param(name+"#0"), param(name+"#1")
	return generic(name, 2, function(void(), append(repeated(text, count-4), first, second)...))
}

func TestUnderJustAsGreatAsMayBe(t *testing.T) {
	const most = api.MaxSize
	e := made(t, decls(
		decl("p.Full", great(most)), decl("p.Deep", nested(integer, api.MaxDepth-1)), decl("p.Lead", named("p.Full")),
		pair("p.Pair", 100), pair("p.Most", most),
		generic("p.Twice", 1, named("p.Pair", param("p.Twice#0"), param("p.Twice#0"))),
	), nil)
	expectUnder(t, "as great as may be", e, named("p.Full"), great(most))
	expectUnder(t, "as great as may be, by another", e, named("p.Lead"), great(most))
	expectUnder(t, "as deep as may be", e, named("p.Deep"), nested(integer, api.MaxDepth-1))
	expectUnder(t, "as great as may be", e, great(most), great(most))
	expectNoUnder(t, "one greater", e, great(most+1))

	put := func(first, second api.Type) api.Type {
		return function(void(), append(repeated(text, 96), first, second)...)
	}
	fits := great(most - 99)
	expectUnder(t, "just as great", e, named("p.Pair", fits, integer), put(fits, integer))
	expectUnder(t, "just as great", e, named("p.Pair", integer, fits), put(integer, fits))
	for _, wrong := range list(named("p.Pair", great(most-98), integer), named("p.Pair", integer, great(most-98)), named("p.Pair", fits, slice(integer)), named("p.Pair", great(2000), great(2000)), named("p.Twice", great(2000))) {
		expectNoUnder(t, "one greater", e, wrong)
		expectUnder(t, "one greater, inside", e, slice(wrong), slice(wrong))
		expectHolds(t, "one greater, inside", e, array(1, wrong), true)
	}
	expectUnder(t, "nothing greater is put", e, named("p.Most", integer, text), function(void(), append(repeated(text, most-4), integer, text)...))
	expectNoUnder(t, "anything greater is put", e, named("p.Most", integer, slice(text)))
	expectUnder(t, "half", e, named("p.Twice", great(1998)), put(great(1998), great(1998)))
}

// What comes out on the way may be, too.
func TestUnderJustAsGreatOnTheWay(t *testing.T) {
	const most = api.MaxSize
	e := made(t, decls(
		generic("p.Lost", 1, integer), generic("p.Loses", 1, named("p.Lost", slice(param("p.Loses#0")))),
		generic("p.Slice", 1, slice(param("p.Slice#0"))), generic("p.Same", 1, named("p.Slice", param("p.Same#0"))),
	), nil)
	expectUnder(t, "just as great on the way", e, named("p.Loses", great(most-2)), integer)
	expectNoUnder(t, "one greater on the way", e, named("p.Loses", great(most-1)))
	expectUnder(t, "never greater", e, named("p.Lost", great(most-1)), integer)
	expectUnder(t, "never greater", e, named("p.Same", great(most-1)), slice(great(most-1)))
	expectNoUnder(t, "greater from the beginning", e, named("p.Lost", great(most)))
	expectUnder(t, "just as deep on the way", e, named("p.Loses", nested(integer, api.MaxDepth-3)), integer)
	expectNoUnder(t, "one deeper on the way", e, named("p.Loses", nested(integer, api.MaxDepth-2)))
	expectUnder(t, "never deeper", e, named("p.Lost", nested(integer, api.MaxDepth-2)), integer)
	expectUnder(t, "never deeper", e, named("p.Same", nested(integer, api.MaxDepth-2)), nested(integer, api.MaxDepth-1))
	expectNoUnder(t, "deeper from the beginning", e, named("p.Lost", nested(integer, api.MaxDepth-1)))
}

func TestUnderJustAsDeepAsMayBe(t *testing.T) {
	for _, deep := range []int{1, 2, 100, 150, 198} {
		e := made(t, decls(generic("p.G", 1, nested(param("p.G#0"), deep)), generic("p.H", 1, named("p.G", param("p.H#0")))), nil)
		for _, name := range names("p.G", "p.H") {
			fits := nested(integer, api.MaxDepth-1-deep)
			expectUnder(t, "just as deep", e, named(name, fits), nested(integer, api.MaxDepth-1))
			expectNoUnder(t, "one deeper", e, named(name, slice(fits)))
		}
	}
}

// Arguments that double with each step come to what may not be, before they take more memory than there is.
func TestUnderOfDoubling(t *testing.T) {
	const steps = 100
	var all []api.Decl
	for i := range steps {
		own := param(fmt.Sprintf("p.D%d#0", i))
		all = append(all, generic(fmt.Sprintf("p.D%d", i), 1, named(fmt.Sprintf("p.D%d", i+1), mapOf(own, own))))
	}
	all = append(all, generic(fmt.Sprintf("p.D%d", steps), 1, slice(param(fmt.Sprintf("p.D%d#0", steps)))))
	e := made(t, all, nil)
	want := integer
	for i := steps; i >= 0; i-- {
		x := named(fmt.Sprintf("p.D%d", i), integer)
		// 2^(n+1) - 1 types are n doublings, and one more the type around them.
		if doublings := steps - i; doublings <= 11 {
			expectUnder(t, "doubled", e, x, slice(want))
			want = mapOf(want, want)
		} else {
			expectNoUnder(t, "doubled too often", e, x)
		}
	}
}

// Long lists of all that New is given.
func TestLongLists(t *testing.T) {
	const many = 1 << 16
	var all []api.Decl
	var further []api.Var
	var constraints []api.Type
	var sigs []api.Method
	for i := range many {
		all = append(all, decl(fmt.Sprintf("p.T%d", i), field(named(fmt.Sprintf("p.T%d", (i*7+1)%many)))))
		further = append(further, api.Var{Name: fmt.Sprintf("P%d", i), Type: named(fmt.Sprintf("p.T%d", i))})
		constraints = append(constraints, array(i, integer))
		sigs = append(sigs, method(fmt.Sprintf("M%d", i), nullary))
	}
	wide := api.Decl{Name: "p.Wide", Params: constraints, Under: slice(param(fmt.Sprintf("p.Wide#%d", many-1))), Methods: sigs}
	all = append(all, wide)
	e := made(t, all, further)
	expectDecl(t, "wide", e, "p.Wide", wide)
	expectConstraint(t, "wide", e, fmt.Sprintf("p.Wide#%d", many-1), array(many-1, integer))
	expectNoConstraint(t, "wide", e, fmt.Sprintf("p.Wide#%d", many))
	expectConstraint(t, "further", e, "P999", named("p.T999"))
	expectNoUnder(t, "more arguments than may be", e, named("p.Wide", constraints...))
	expectUnder(t, "one of many", e, named("p.T0"), field(named("p.T1")))
	expectHolds(t, "a ring of many", e, named("p.T5"), false)
	if got := len(e.Names()); got != many+3 {
		t.Errorf("P13.1: %d names", got)
	}
	expectNoNew(t, "one of many methods twice", decls(decl("p.T", integer, append(sigs, method("M777", nullary))...)), nil)
	expectNoNew(t, "one of many params twice", all, append(further, api.Var{Name: "P777", Type: integer}))
	expectNoNew(t, "one of many declarations twice", append(all, decl("p.T777", integer)), nil)
}

// Structs that hold the next one twice are gone through once each, and a chain of many is no deeper than another.
func TestHoldsOfManyWays(t *testing.T) {
	const many = 1 << 16
	var all []api.Decl
	for i := range many {
		next := named(fmt.Sprintf("p.T%d", i+1))
		if i == many-1 {
			next = integer
		}
		all = append(all, decl(fmt.Sprintf("p.T%d", i), structOf(member{name: "a", t: next}, member{name: "b", t: array(2, next)})))
	}
	ends := made(t, all, nil)
	all[many-1].Under = structOf(member{name: "a", t: named(fmt.Sprintf("p.T%d", many/2))})
	rings := made(t, all, nil)
	for i := 0; i < many; i += many / 16 {
		x := named(fmt.Sprintf("p.T%d", i))
		expectHolds(t, "many ways", ends, x, true)
		expectHolds(t, "many ways into a ring", rings, x, false)
	}
}
