package types_test

import (
	"testing"

	"sterling/api"
	"sterling/types"
)

func TestEqOfEveryTwoKinds(t *testing.T) {
	for _, a := range kinds() {
		for _, b := range kinds() {
			if got := types.Eq(plain(a), deepCopy(plain(b))); got != (a == b) {
				t.Errorf("P11.1: Eq of kinds %d and %d is %v", a, b, got)
			}
		}
	}
}

func expectEq(t *testing.T, a, b api.Type, want bool) {
	t.Helper()
	if types.Eq(a, b) != want || types.Eq(b, a) != want {
		t.Errorf("P11.1: Eq(%s, %s) is not %v", brief(a), brief(b), want)
	}
	if sameTexts := types.Text(a) == types.Text(b) && types.Text(a) != ""; sameTexts != want {
		t.Errorf("P11.2: the texts of %s, %s are the same: %v", brief(a), brief(b), sameTexts)
	}
}

// Each field is changed alone, to what may be.
func TestEqByFields(t *testing.T) {
	fields := structOf(member{name: "a", t: integer}, member{name: "T", t: named("a.T")}, member{name: "c", t: text})
	face := plain(api.KInterface)
	with := func(t api.Type, change func(t *api.Type)) api.Type {
		t = deepCopy(t)
		change(&t)
		return t
	}
	for _, pair := range [][2]api.Type{
		{basic("int"), basic("int8")}, {basic("uint"), basic("uint8")}, {basic("float32"), basic("float64")}, {basic("int"), untyped("int")},
		{untyped("int"), untyped("float")}, {named("a.T"), named("a.U")}, {named("a.T"), named("b.T")}, {named("a.T"), named("a~1.T")}, {named("a~1.T"), named("a~2.T")},
		{named("a.T"), named("a.T", integer)}, {named("a.T", integer), named("a.T", text)}, {named("a.T", integer), named("a.T", integer, integer)},
		{param("P"), param("Q")}, {param("P"), param("p")}, {param("a.T"), named("a.T")}, {param("P"), param("P ")},
		{array(1, integer), array(2, integer)}, {array(1, integer), array(1, text)}, {array(0, integer), slice(integer)},
		{slice(integer), slice(text)}, {slice(integer), pointer(integer)}, {mapOf(integer, text), mapOf(text, integer)}, {mapOf(integer, text), mapOf(integer, integer)},
		{function(integer), function(text)}, {function(integer), function(void())}, {function(void(), integer), function(integer)},
		{function(void(), integer), function(void(), integer, integer)}, {function(void(), integer, text), function(void(), text, integer)},
		{fields, with(fields, func(t *api.Type) { t.Names[0] = "b" })}, {fields, with(fields, func(t *api.Type) { t.Names[0] = "_" })},
		{fields, with(fields, func(t *api.Type) { t.Emb[1] = true })}, {fields, with(fields, func(t *api.Type) { t.Args[0] = text })},
		{fields, structOf(member{name: "a", t: integer}, member{name: "T", t: named("a.T")})},
		{fields, structOf(member{name: "c", t: text}, member{name: "T", t: named("a.T")}, member{name: "a", t: integer})},
		{face, with(face, func(t *api.Type) { t.Names[1] = "C" })}, {face, with(face, func(t *api.Type) { t.Args[0] = function(integer) })},
		{face, with(face, func(t *api.Type) { t.Names, t.Args = t.Names[:1], t.Args[:1] })}, {face, with(face, func(t *api.Type) { t.Sets = t.Sets[:1] })},
		{face, with(face, func(t *api.Type) { t.Sets[0][0].Tilde = true })}, {face, with(face, func(t *api.Type) { t.Sets[0][0].Type = text })},
		{face, with(face, func(t *api.Type) { t.Sets[0] = t.Sets[0][:1] })}, {face, with(face, func(t *api.Type) { t.Sets = nil })},
		{face, with(face, func(t *api.Type) { t.Sets = append(t.Sets, union(only(integer))) })},
		{of(api.KStruct), of(api.KInterface)}, {of(api.KNil), void()}, {named("error"), named("comparable")},
	} {
		expectEq(t, pair[0], pair[1], false)
		expectEq(t, pair[0], deepCopy(pair[0]), true)
		expectEq(t, pair[1], deepCopy(pair[1]), true)
		if pair[0].Kind < api.KNil && pair[1].Kind < api.KNil {
			expectEq(t, slice(pair[0]), slice(pair[1]), false)
			expectEq(t, sets(union(only(pair[0]))), sets(union(only(pair[1]))), false)
			expectEq(t, sets(union(only(pair[0]), only(pair[1]))), sets(union(only(pair[1]), only(deepCopy(pair[0])))), true)
			expectEq(t, sets(union(only(pair[0]), only(pair[1]))), sets(union(only(pair[1]))), false)
		}
	}
}

func TestEqOfUnions(t *testing.T) {
	a, b, c := only(integer), tilde(integer), only(text)
	for _, same := range [][]api.Type{
		{sets(union(a, c)), sets(union(c, a)), sets(union(a, c, a)), sets(union(c, c, a), union(a, c)), sets(union(a, c), union(c, a), union(c, a, a, c))},
		{sets(union(a, b, c)), sets(union(c, b, a)), sets(union(b, c, b, a))},
		{sets(union(a), union(b)), sets(union(b), union(a)), sets(union(b, b), union(a), union(b))},
		{sets(union(a, b), union(c)), sets(union(c), union(b, a)), sets(union(c, c), union(b, a), union(a, b))},
		{sets(union(a), union(b), union(c)), sets(union(c), union(a), union(b), union(a))},
		{sets(union(a)), sets(union(a, a)), sets(union(a), union(a))},
		{sets(union(b)), sets(union(b, b, b))},
		{sets(union(a), union(a, b)), sets(union(b, a), union(a))},
		{sets(union(a, b)), sets(union(b, a))},
		{of(api.KInterface), {Kind: api.KInterface, Sets: [][]api.Term{}}},
	} {
		expectAllEq(t, same)
		for _, other := range []api.Type{sets(union(c)), sets(union(tilde(text), a)), sets(union(a, b), union(a, c))} {
			expectEq(t, same[0], other, false)
		}
	}
}

func expectAllEq(t *testing.T, list []api.Type) {
	t.Helper()
	for _, x := range list {
		for _, y := range list {
			expectEq(t, x, y, true)
			expectEq(t, pointer(x), pointer(y), true)
			expectEq(t, function(x, y), function(y, x), true)
			expectEq(t, sets(union(only(x))), sets(union(only(y), only(x))), true)
			expectEq(t, sets(union(tilde(x))), sets(union(only(y))), false)
		}
	}
}

func TestEqOfInterfacesInside(t *testing.T) {
	a, b := sets(union(only(integer), only(text))), sets(union(only(text), only(integer), only(text)))
	method := func(t api.Type) api.Type { return methods(member{name: "M", t: function(t, t)}) }
	for _, inside := range []func(t api.Type) api.Type{
		slice, pointer, method,
		func(t api.Type) api.Type { return array(2, t) },
		func(t api.Type) api.Type { return mapOf(t, t) },
		func(t api.Type) api.Type { return function(void(), t, t) },
		func(t api.Type) api.Type { return structOf(member{name: "a", t: t}) },
		func(t api.Type) api.Type { return named("a.T", t) },
		func(t api.Type) api.Type { return sets(union(only(t)), union(tilde(t))) },
		func(t api.Type) api.Type { return sets(union(only(integer), tilde(t))) },
		func(t api.Type) api.Type { return both(method(t), union(only(method(t)))) },
	} {
		expectEq(t, inside(a), inside(b), true)
		expectEq(t, inside(inside(a)), inside(inside(b)), true)
		expectEq(t, sets(union(only(inside(a)), only(inside(b)))), sets(union(only(inside(a)))), true)
		expectEq(t, inside(a), inside(sets(union(only(integer)))), false)
		expectEq(t, inside(a), inside(sets(union(only(integer)), union(only(text)))), false)
	}
}

// Interfaces that stand in unions as deep as may be: held against each other term by term, both ways, they would never
// end.
func TestEqOfDeepUnions(t *testing.T) {
	a, b, c := integer, integer, text
	for i := range api.MaxDepth - 2 {
		a = sets(union(only(a)), union(tilde(slice(integer)), only(text)))
		b = sets(union(only(text), tilde(slice(integer)), only(text)), union(only(b)))
		c = sets(union(only(c)), union(tilde(slice(integer)), only(text)))
		if !types.May(a) {
			t.Fatalf("P11.1: %d deep it may not be", i+3)
		}
		if i%20 == 0 || i == api.MaxDepth-3 {
			expectEq(t, a, b, true)
			expectEq(t, a, c, false)
		}
	}
}

func TestEqOfWhatMayNotBe(t *testing.T) {
	for _, x := range refusedTypes() {
		if types.Eq(x.Type, x.Type) {
			t.Errorf("P11.1: %s is identical to itself", x.why)
		}
		for _, kind := range kinds() {
			if types.Eq(x.Type, plain(kind)) || types.Eq(plain(kind), x.Type) {
				t.Errorf("P11.1: %s is identical to what may be", x.why)
			}
		}
	}
}

func TestEqLikeModel(t *testing.T) {
	random := newMaker(1110)
	same := 0
	for range 20000 {
		a := random.aType(random.Intn(4))
		b := random.turned(a)
		expectEq(t, a, b, true)
		for _, c := range []api.Type{random.aType(random.Intn(3)), random.changed(b), random.changed(a)} {
			want := modelMay(c) && modelEq(a, c)
			expectEq(t, a, c, want)
			if want {
				same++
			}
		}
		if t.Failed() {
			return
		}
	}
	if same == 0 {
		t.Error("no two were the same")
	}
}
