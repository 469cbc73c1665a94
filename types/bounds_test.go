package types_test

import (
	"fmt"
	"testing"

	"sterling/api"
	"sterling/types"
)

func expectMay(t *testing.T, why string, x api.Type, want bool) {
	t.Helper()
	if got := types.May(x); got != want {
		t.Errorf("P11.1: %s: May is %v", why, got)
	}
	if got := types.Text(x) != ""; got != want {
		t.Errorf("P11.2: %s: Text is not empty: %v", why, got)
	}
	if got := types.Eq(x, x); got != want {
		t.Errorf("P11.1: %s: Eq of it and itself is %v", why, got)
	}
}

// nestings put a type into another one, each as many deeper as it says.
func nestings() map[string]struct {
	inside func(t api.Type) api.Type
	deeper int
} {
	all := map[string]struct {
		inside func(t api.Type) api.Type
		deeper int
	}{}
	for where, inside := range insides() {
		nesting := all[where]
		nesting.inside, nesting.deeper = inside, 1
		if where == "method" {
			nesting.deeper = 2
		}
		all[where] = nesting
	}
	result := all["result"]
	result.inside, result.deeper = func(t api.Type) api.Type { return function(t) }, 1
	all["result"] = result
	result.inside, result.deeper = func(t api.Type) api.Type { return methods(member{name: "M", t: function(t)}) }, 2
	all["method's result"] = result
	return all
}

func TestDepth(t *testing.T) {
	for where, nesting := range nestings() {
		for _, inner := range []struct {
			t    api.Type
			deep int
		}{{integer, 1}, {slice(text), 2}, {array(0, slice(param("P"))), 3}, {function(void()), 2}, {of(api.KInterface), 1}} {
			x, deep := inner.t, inner.deep
			for deep+nesting.deeper <= api.MaxDepth {
				x, deep = nesting.inside(x), deep+nesting.deeper
			}
			expectMay(t, fmt.Sprintf("%d deep by %s", deep, where), x, true)
			expectMay(t, "deeper than may be, by "+where, nesting.inside(x), false)
			x, deep = grownBySlices(x, api.MaxDepth-deep), api.MaxDepth
			expectMay(t, fmt.Sprintf("%d deep by %s and slices", deep, where), x, true)
			for outside, other := range nestings() {
				expectMay(t, fmt.Sprintf("%d deep by %s and %s", deep+other.deeper, where, outside), other.inside(x), false)
			}
		}
	}
}

func grownBySlices(t api.Type, count int) api.Type {
	for range count {
		t = slice(t)
	}
	return t
}

// What gives nothing has a type in it that says so: it counts.
func TestDepthOfVoid(t *testing.T) {
	expectMay(t, "a function without a result, 199 deep", grownBySlices(function(void()), 198), true)
	expectMay(t, "a function without a result, 200 deep", grownBySlices(function(void()), 199), false)
}

func repeated(t api.Type, count int) []api.Type {
	list := make([]api.Type, count)
	for i := range list {
		list[i] = t
	}
	return list
}

func fieldsOf(t api.Type, count int) api.Type {
	var list []member
	for i := range count {
		list = append(list, member{name: fmt.Sprintf("f%d", i), t: t})
	}
	return structOf(list...)
}

func blankFields(t api.Type, count int) api.Type {
	var list []member
	for range count {
		list = append(list, member{name: "_", t: t})
	}
	return structOf(list...)
}

func methodsOf(t api.Type, count int) api.Type {
	var list []member
	for i := range count {
		list = append(list, member{name: fmt.Sprintf("M%04d", i), t: t})
	}
	return methods(list...)
}

func termsOf(t api.Type, count int) []api.Term {
	var list []api.Term
	for range count {
		list = append(list, only(t))
	}
	return list
}

func singleUnions(t api.Type, count int) api.Type {
	var list [][]api.Term
	for range count {
		list = append(list, union(only(t)))
	}
	return sets(list...)
}

func TestSize(t *testing.T) {
	const most = api.MaxSize
	for why, of := range map[string]func(count int) api.Type{
		"arguments":    func(count int) api.Type { return named("a.T", repeated(integer, count-1)...) },
		"parameters":   func(count int) api.Type { return function(integer, repeated(text, count-2)...) },
		"no result":    func(count int) api.Type { return function(void(), repeated(text, count-2)...) },
		"fields":       func(count int) api.Type { return fieldsOf(integer, count-1) },
		"blank fields": func(count int) api.Type { return blankFields(integer, count-1) },
		"terms":        func(count int) api.Type { return sets(termsOf(integer, count-1)) },
		"unions":       func(count int) api.Type { return singleUnions(integer, count-1) },
		"slices":       func(count int) api.Type { return slice(slice(named("a.T", repeated(integer, count-3)...))) },
		"two halves": func(count int) api.Type {
			return mapOf(fieldsOf(integer, most/2-2), named("a.T", repeated(integer, count-most/2-1)...))
		},
		"half and terms": func(count int) api.Type {
			return sets(termsOf(fieldsOf(integer, most/2-2), 1), termsOf(integer, count-most/2))
		},
		"a method's": func(count int) api.Type {
			return methods(member{name: "A", t: function(void(), repeated(integer, count-3)...)})
		},
		"methods and a term": func(count int) api.Type {
			return both(methods(member{name: "A", t: function(void(), repeated(integer, most/2)...)}), termsOf(integer, count-most/2-3))
		},
		"functions as terms": func(count int) api.Type {
			return sets(union(tilde(function(void(), repeated(integer, most/2)...)), only(function(integer, repeated(integer, count-most/2-5)...))))
		},
	} {
		for _, count := range []int{most - 1, most, most + 1, most + 2, 2 * most, 1 << 16} {
			x := of(count)
			if got := modelSize(x); got != count {
				t.Fatalf("%s: %d types, not %d", why, got, count)
			}
			expectMay(t, fmt.Sprintf("%s: %d types", why, count), x, count <= most)
		}
	}
}

// Methods are two types or more each, their functions and what these give.
func TestSizeOfMethods(t *testing.T) {
	const half = (api.MaxSize - 1) / 2
	whole := methodsOf(function(void()), half)
	expectMay(t, "4,095 types of methods", whole, true)
	expectMay(t, "4,096 types of methods and a term", both(whole, union(only(integer))), true)
	expectMay(t, "4,097 types of methods and two terms", both(whole, union(only(integer), only(integer))), false)
	expectMay(t, "4,097 types of methods and two unions", both(whole, union(only(integer)), union(only(integer))), false)
	expectMay(t, "4,097 types of methods", methodsOf(function(void()), half+1), false)
	expectMay(t, "4,096 types of methods, in a slice", slice(whole), true)
	expectMay(t, "4,097 types of methods, in two slices", slice(slice(whole)), false)
}

// Lists that stand in many places: what they are makes far more types than there is memory for.
func TestSharedLists(t *testing.T) {
	for where, double := range map[string]func(t api.Type) api.Type{
		"map":       func(t api.Type) api.Type { return mapOf(t, t) },
		"function":  func(t api.Type) api.Type { return function(t, t, t) },
		"arguments": func(t api.Type) api.Type { return named("a.T", t, t) },
		"fields":    func(t api.Type) api.Type { return structOf(member{name: "a", t: t}, member{name: "b", t: t}) },
		"methods":   func(t api.Type) api.Type { return methods(member{name: "A", t: function(t, t)}) },
		"terms":     func(t api.Type) api.Type { return sets(union(only(t), tilde(t))) },
		"unions":    func(t api.Type) api.Type { return sets(union(only(t)), union(tilde(t))) },
	} {
		x := integer
		for deep := 1; deep < 90; deep++ {
			if deep < 12 || deep > 80 {
				expectMay(t, fmt.Sprintf("%d deep, each twice by %s", deep, where), x, deep < 12 && modelSize(x) <= api.MaxSize)
			}
			x = double(x)
		}
	}
}

// Types that may not be may be deeper than calls can be nested, and have longer lists than may be.
func TestFarBeyond(t *testing.T) {
	deep := grownBySlices(integer, 1<<20)
	expectMay(t, "a million deep", deep, false)
	for range 1 << 20 {
		deep = sets(union(only(deep)))
	}
	expectMay(t, "two million deep", deep, false)
	const many = 1 << 20
	names := make([]string, many)
	for i := range names {
		names[i] = "a"
	}
	args := repeated(function(void()), many)
	for _, x := range []api.Type{
		named("a.T", args...), {Kind: api.KStruct, Names: names, Emb: make([]bool, many), Args: args}, {Kind: api.KInterface, Names: names, Args: args},
		{Kind: api.KStruct, Names: names}, {Kind: api.KStruct, Emb: make([]bool, many)}, {Kind: api.KInterface, Names: names}, {Kind: api.KBasic, Name: "int", Names: names},
		sets(make([][]api.Term, many)...), sets(make([]api.Term, many)), sets(termsOf(integer, many)), singleUnions(integer, many), function(integer, args...),
		{Kind: api.KFunc, Len: many, Args: args}, of(api.KSlice, args...),
	} {
		expectMay(t, "a million elements", x, false)
		expectMay(t, "many times a million elements", named("a.T", repeated(x, 4000)...), false)
	}
}
