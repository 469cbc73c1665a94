package types_test

import (
	"testing"

	"sterling/api"
	"sterling/types"
)

// The text of a method that is called `func` is that of a union of one function: there are no words by which to tell
// them apart, but they are not identical.
func TestMethodFunc(t *testing.T) {
	method, term := methods(member{name: "func", t: function(integer)}), sets(union(only(function(integer))))
	for _, x := range []api.Type{method, term} {
		if got := types.Text(x); got != "interface{func() int}" || !types.May(x) {
			t.Errorf("P11.2: %q", got)
		}
	}
	if types.Eq(method, term) || !types.Eq(method, deepCopy(method)) || !types.Eq(term, deepCopy(term)) {
		t.Error("P11.1: a method and a union are identical")
	}
	together := both(method, union(only(function(integer))))
	if got, want := types.Text(together), "interface{func() int;func() int}"; got != want || !types.May(together) {
		t.Errorf("P11.2: a method and a union of one text: %q, not %q", got, want)
	}
}

// twins are two types of one text that are not identical.
func twins() (method, term api.Type) {
	return methods(member{name: "func", t: function(void())}), sets(union(only(function(void()))))
}

func expectText(t *testing.T, where string, x api.Type, want string) {
	t.Helper()
	if got := types.Text(x); got != want {
		t.Errorf("P11.2: %s: %q, not %q", where, got, want)
	}
}

// Terms and unions of one text stand once in a text, whether they are identical or not.
func TestOneTextStandsOnce(t *testing.T) {
	method, term := twins()
	expectOneText(t, "alone", method, term, "interface{func()}")
	for where, nesting := range nestings() {
		a, b := nesting.inside(method), nesting.inside(term)
		expectOneText(t, where, a, b, modelText(b))
		for outside, other := range nestings() {
			expectOneText(t, where+" in "+outside, other.inside(a), other.inside(b), modelText(other.inside(b)))
		}
	}
}

// expectOneText puts a and b, which both have that text, side by side in unions, and these into others.
func expectOneText(t *testing.T, where string, a, b api.Type, text string) {
	t.Helper()
	for want, same := range map[string][]api.Type{
		text: {a, b},
		"interface{" + text + "}": {
			sets(union(only(a), only(b))), sets(union(only(b), only(a), only(b), only(a))), sets(union(only(a)), union(only(b))), sets(union(only(b)), union(only(a)), union(only(b))),
			sets(union(only(a), only(b)), union(only(b)), union(only(b), only(a))),
		},
		"interface{~" + text + "}":              {sets(union(tilde(a), tilde(b))), sets(union(tilde(b)), union(tilde(a)))},
		"interface{" + text + "|~" + text + "}": {sets(union(tilde(b), only(a), tilde(a), only(b))), sets(union(tilde(a), only(b)), union(only(a), tilde(b)))},
		"interface{" + text + ";~" + text + "}": {sets(union(tilde(b)), union(only(a)), union(tilde(a), tilde(b)), union(only(b), only(a)))},
		"interface{" + text + "|~uint}":         {sets(union(tilde(basic("uint")), only(b), only(a)), union(only(a), tilde(basic("uint"))))},
	} {
		for _, x := range same {
			expectText(t, where, x, want)
			expectText(t, where+", in a slice", slice(x), "[]"+want)
			expectText(t, where+", in a term", sets(union(only(x), only(deepCopy(x)))), "interface{"+want+"}")
			expectText(t, where+", in a method", methods(member{name: "M", t: function(void(), x)}), "interface{M("+want+")}")
		}
	}
	if types.Eq(a, b) || types.Eq(sets(union(only(a), only(b))), sets(union(only(b)))) || types.Eq(sets(union(only(a)), union(only(b))), sets(union(only(a)))) {
		t.Errorf("P11.1: %s: two of one text are identical", where)
	}
	if !types.Eq(sets(union(only(a), only(b))), sets(union(only(b), only(a), only(b)))) {
		t.Errorf("P11.1: %s: unions of two of one text are not identical", where)
	}
}

// Types in which one of the two stands in many places have the text that the other one gives there.
func TestOneTextAtRandom(t *testing.T) {
	random := newMaker(1121)
	method, term := twins()
	apart := 0
	for range 20000 {
		x := random.aType(1 + random.Intn(3))
		plain := filled(x, func() api.Type { return term })
		mixed := filled(x, func() api.Type { return pick(random, method, term) })
		want := modelText(plain)
		expectText(t, "one", plain, want)
		expectText(t, "both", mixed, want)
		expectText(t, "side by side", sets(union(only(plain), only(mixed)), union(only(mixed))), "interface{"+want+"}")
		if types.Eq(plain, mixed) != modelEq(plain, mixed) {
			t.Fatalf("P11.1: Eq(%s, %s)", brief(plain), brief(mixed))
		}
		if !modelEq(plain, mixed) {
			apart++
		}
		if t.Failed() {
			return
		}
	}
	if apart < 2000 {
		t.Errorf("only %d were not identical", apart)
	}
}

// filled is a copy of t with what next gives for each parameter.
func filled(t api.Type, next func() api.Type) api.Type {
	t = deepCopy(t)
	for _, part := range allParts(&t) {
		if part.Kind == api.KParam {
			*part = next()
		}
	}
	return deepCopy(t)
}
