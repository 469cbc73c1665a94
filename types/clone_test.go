package types_test

import (
	"fmt"
	"reflect"
	"testing"

	"sterling/api"
	"sterling/types"
)

func expectClone(t *testing.T, why string, x api.Type) {
	t.Helper()
	got := types.Clone(x)
	if whole(got) != whole(x) {
		t.Errorf("P11.1: Clone of %s: %s", why, brief(got))
	}
	if types.May(got) != types.May(x) || types.Text(got) != types.Text(x) || types.Eq(got, x) != types.May(x) {
		t.Errorf("P11.1: Clone of %s is another type", why)
	}
	expectNoSharing(t, why, got, x)
}

func TestClone(t *testing.T) {
	for text, x := range sound() {
		expectClone(t, text, x)
		if !reflect.DeepEqual(types.Clone(x), x) {
			t.Errorf("P11.1: Clone of %s is not the same", text)
		}
	}
	random := newMaker(1112)
	for range 5000 {
		x := random.aType(random.Intn(4))
		expectClone(t, "a type at random", x)
		expectClone(t, "a changed type", random.changed(x))
	}
}

// What may not be is copied as it is, as long as it is finite.
func TestCloneOfWhatMayNotBe(t *testing.T) {
	held := len(selfHolding())
	all := refusedTypes()
	for _, x := range all[:len(all)-held] {
		expectClone(t, x.why, x.Type)
	}
	full := api.Type{Kind: -7, Name: "x", Len: -1, Args: []api.Type{{}, integer}, Names: []string{"a", ""}, Emb: []bool{true}, Sets: [][]api.Term{nil, {}, {only(text), tilde(api.Type{Kind: 99, Len: 5})}}}
	expectClone(t, "all fields", full)
	expectClone(t, "nothing", api.Type{})
}

// A copy of what holds itself would never end.
func TestCloneOfWhatHoldsItself(t *testing.T) {
	for _, x := range selfHolding() {
		if got := types.Clone(x.Type); whole(got) != whole(api.Type{}) {
			t.Errorf("P0.1: Clone of %s: %s", x.why, brief(got))
		}
		if got := types.Func([]api.Type{integer, x.Type}, text); whole(got) != whole(api.Type{}) {
			t.Errorf("P0.1: Func of %s: %s", x.why, brief(got))
		}
	}
	names := make([]string, 1<<20)
	doubled := api.Type{Kind: api.KStruct, Names: names}
	for range 60 {
		doubled = api.Type{Kind: api.KStruct, Names: names, Args: []api.Type{doubled, doubled}, Sets: [][]api.Term{{only(doubled)}, {tilde(doubled)}}}
	}
	if got := types.Clone(doubled); whole(got) != whole(api.Type{}) {
		t.Errorf("P0.1: Clone of what is too much: %s", brief(got))
	}
}

// Deeper than calls can be nested.
func TestCloneOfDeepTypes(t *testing.T) {
	const deep = 3 << 20
	x := integer
	for range deep {
		x = slice(x)
	}
	count := 0
	for got := types.Clone(x); len(got.Args) == 1 && got.Kind == api.KSlice; got = got.Args[0] {
		count++
	}
	if count != deep {
		t.Errorf("P11.1: Clone: %d deep, not %d", count, deep)
	}
}

func TestCloneOfWideTypes(t *testing.T) {
	const wide = 1 << 18
	for why, x := range map[string]api.Type{
		"arguments": named("a.T", repeated(slice(text), wide)...),
		"fields":    fieldsOf(integer, wide),
		"terms":     sets(termsOf(integer, wide)),
		"unions":    singleUnions(integer, wide),
	} {
		if got := types.Clone(x); !reflect.DeepEqual(got, x) {
			t.Errorf("P11.1: Clone of many %s is not the same", why)
		}
	}
}

// Lists that stand in many places stand in each of their own.
func TestCloneOfSharedLists(t *testing.T) {
	args, names := []api.Type{integer, text}, []string{"a", "b"}
	flags, terms := []bool{false, false}, union(only(integer), tilde(text))
	inner := api.Type{Kind: api.KStruct, Names: names, Emb: flags, Args: args}
	unions := [][]api.Term{terms, terms}
	face := api.Type{Kind: api.KInterface, Sets: unions}
	all := api.Type{Kind: api.KNamed, Name: "a.T", Args: []api.Type{inner, inner, face, face, named("b.T", args...), {Kind: api.KInterface, Sets: unions[:1]}}}
	for i, x := range []api.Type{inner, face, all, mapOf(all, all), function(inner, inner, face)} {
		expectClone(t, fmt.Sprintf("shared lists, %d", i), x)
	}
}
