package subst_test

import (
	"slices"
	"testing"

	"sterling/api"
	"sterling/subst"
	"sterling/types"
)

// bare are those that stand in no others.
func bare() []api.Type {
	all := list(null(), void())
	for _, name := range names("bool", "string", "int", "float") {
		all = append(all, untyped(name))
	}
	return all
}

func TestPutOfBareTypes(t *testing.T) {
	for _, x := range bare() {
		expectPut(t, "for itself", p, names("P"), list(x), x)
		expectPut(t, "as t", x, nil, nil, x)
		expectPut(t, "as t", x, names("P", "nil", "int", x.Name, ""), repeated(text, 5), x)
		for where, place := range places() {
			expectNoPut(t, where, place.inside(p), names("P"), list(x))
			expectPut(t, where+", not put", place.inside(p), names("Q", "P", "P"), list(x, text, x), place.inside(text))
		}
		for where, place := range results() {
			if x.Kind == api.KVoid {
				expectPut(t, where, place.inside(p), names("P"), list(x), place.inside(x))
			} else {
				expectNoPut(t, where, place.inside(p), names("P"), list(x))
			}
		}
	}
}

// void is put for a result, but for nothing beside it.
func TestPutOfVoid(t *testing.T) {
	expectPut(t, "results alone", function(function(p), function(p), function(p, q)), names("P"), list(void()), function(function(void()), function(void()), function(void(), q)))
	expectPut(t, "a result, and another parameter", function(p, q), names("P", "Q"), list(void(), text), function(void(), text))
	expectNoPut(t, "a result and a parameter", function(p, p), names("P"), list(void()))
	expectNoPut(t, "a result and an element of it", function(p, slice(p)), names("P"), list(void()))
	expectNoPut(t, "a result's element", function(slice(p)), names("P"), list(void()))
	expectNoPut(t, "a result and a term", both(methods(member{name: "M", t: function(p)}), union(only(p))), names("P"), list(void()))
	expectPut(t, "a slice of functions", slice(function(p)), names("P"), list(void()), slice(function(void())))
	put := subst.Put(function(p, integer), names("P"), list(void()))
	if got := types.Text(put); got != "func(int)" || !types.Eq(put, types.Func(list(integer), api.Type{})) {
		t.Errorf("P12.1: void for a result: %q", got)
	}
}

func TestPutOfRefusedArguments(t *testing.T) {
	for why, wrong := range refusedTypes() {
		expectNoPut(t, why, p, names("P"), list(wrong))
		expectPut(t, why+", not put", p, names("Q"), list(wrong), p)
		expectPut(t, why+", not put", mapOf(p, q), names("R", "P", "Q", "P"), list(wrong, integer, text, wrong), mapOf(integer, text))
		expectPut(t, why+", without a name", mapOf(p, q), names("P"), list(integer, wrong), mapOf(integer, q))
		expectPut(t, why+", of no parameter", integer, names("P", "int"), list(wrong, wrong), integer)
		for where, place := range allPlaces() {
			expectNoPut(t, why+" as "+where, place.inside(p), names("P"), list(wrong))
			expectNoPut(t, why+" as "+where+", beside another", mapOf(q, place.inside(p)), names("Q", "P"), list(integer, wrong))
		}
	}
}

func TestRefusedTypes(t *testing.T) {
	for why, wrong := range refusedTypes() {
		expectNoPut(t, why, wrong, nil, nil)
		expectNoPut(t, why, wrong, names("P"), list(integer))
		expectNoPut(t, why, wrong, names("P", "Q", "T"), list(named("a.P"), named("a.T"), named("a.T")))
		expectNoPut(t, why+", by a function", wrong, names("P", "Q"), list(function(void()), void()))
		expectFree(t, why, wrong)
		expectSize(t, why, wrong, 0)
		for where, place := range allPlaces() {
			expectNoPut(t, why+" as "+where, place.inside(wrong), names("P"), list(integer))
			expectFree(t, why+" as "+where, place.inside(wrong))
			expectSize(t, why+" as "+where, place.inside(wrong), 0)
		}
	}
	for _, x := range bare() {
		for where, place := range places() {
			expectNoPut(t, where, place.inside(x), names("P"), list(integer))
			expectFree(t, where, mapOf(p, place.inside(x)))
			expectSize(t, where, place.inside(x), 0)
		}
	}
}

// An embedded field keeps its name, whatever is put into its type; a parameter is no type to embed, whatever is put for
// it.
func TestPutIntoEmbeddedFields(t *testing.T) {
	for _, arg := range fillers() {
		for _, embed := range []func(t api.Type) api.Type{func(t api.Type) api.Type { return t }, pointer} {
			expectPut(t, "embedded", embedding("T", embed(named("a/b~2.T", p, slice(p)))), names("P", "T", "a/b~2.T"), list(arg, integer, text), embedding("T", embed(named("a/b~2.T", arg, slice(arg)))))
			two := func(t, u api.Type) api.Type {
				return structOf(member{name: "T", t: named("a.T", t), emb: true}, member{name: "P", t: t}, member{name: "U", t: embed(named("b.U", u)), emb: true})
			}
			expectPut(t, "two embedded", two(p, q), names("Q", "P"), list(arg, integer), two(integer, arg))
		}
	}
	inside := named("a.T", p)
	for _, x := range list(embedding("P", p), embedding("P", pointer(p)), embedding("T", p), embedding("T", pointer(p)), embedding("T", pointer(pointer(inside))), embedding("U", inside), embedding("P", inside)) {
		for _, arg := range list(named("a.P"), named("a.T"), pointer(named("a.T")), inside, integer) {
			expectNoPut(t, "what may not be embedded", x, names("P"), list(arg))
			expectNoPut(t, "what may not be embedded, inside", slice(x), names("P"), list(arg))
		}
	}
	outer := embedding("T", inside)
	expectPut(t, "embedding into itself", outer, names("P"), list(outer), embedding("T", named("a.T", outer)))
	expectNoPut(t, "embedding what may not be", outer, names("P"), list(embedding("U", inside)))
	expectNoPut(t, "embedding nothing", outer, names("P"), list(void()))
}

// What a call answers where there is nothing has no field but zero ones.
func TestNothingIsZero(t *testing.T) {
	for _, got := range list(subst.Put(of(api.KSlice), nil, nil), subst.Put(slice(p), names("P"), list(void())), subst.Put(p, names("P"), list(param("")))) {
		if got.Kind != 0 || got.Name != "" || got.Len != 0 || len(got.Args)+len(got.Names)+len(got.Emb)+len(got.Sets) != 0 {
			t.Errorf("P0.2: %s", brief(got))
		}
	}
	if got := slices.Concat(subst.Free(of(api.KSlice)), subst.Free(api.Type{}), subst.Free(integer)); len(got) != 0 {
		t.Errorf("P0.2: %q", got)
	}
}
