package types_test

import (
	"math"
	"slices"
	"testing"

	"sterling/api"
	"sterling/types"
)

// refused is a type that may not be, and why.
type refused struct {
	why string
	api.Type
}

// refusedTypes are all that are refused for other things than their depth, size and names.
func refusedTypes() []refused {
	return slices.Concat(ofUnknownKinds(), withOtherFields(), withoutFields(), withWrongLengths(), withWrongParts(), withWrongMembers(), selfHolding())
}

func ofUnknownKinds() []refused {
	var all []refused
	for _, kind := range unknownKinds() {
		all = append(all, refused{"an unknown kind", of(kind)}, refused{"a slice of an unknown kind", slice(of(kind))}, refused{"a term of an unknown kind", sets(union(only(of(kind))))},
			refused{"a function that gives an unknown kind", function(of(kind))}, refused{"an unknown kind with a name", api.Type{Kind: kind, Name: "int"}})
		for _, known := range kinds() {
			t := plain(known)
			t.Kind = kind
			all = append(all, refused{"as another kind, but of an unknown one", t})
		}
	}
	return all
}

// withOtherFields have each field that their kind does not name.
func withOtherFields() []refused {
	var all []refused
	add := func(why string, t api.Type, change func(t *api.Type)) {
		change(&t)
		all = append(all, refused{why, t}, refused{why + ", inside", slice(t)}, refused{why + ", in a term", sets(union(only(t)))})
	}
	for _, kind := range kinds() {
		t := plain(kind)
		switch kind {
		default:
			add("a Name too much", t, func(t *api.Type) { t.Name = "int" })
			add("a Name of a blank too much", t, func(t *api.Type) { t.Name = " " })
		case api.KBasic, api.KNamed, api.KParam, api.KUntyped:
		}
		if kind != api.KArray && kind != api.KFunc {
			for _, length := range []int{1, -1, math.MaxInt, math.MinInt} {
				add("a Len too much", t, func(t *api.Type) { t.Len = length })
			}
			add("a Len of its Args too much", t, func(t *api.Type) { t.Len = max(1, len(t.Args)) })
		}
		if kind != api.KNamed {
			add("an arg too much", t, func(t *api.Type) { t.Args = append(slices.Clone(t.Args), integer) })
		}
		add("a Name of a list too much", t, func(t *api.Type) { t.Names = append(slices.Clone(t.Names), "z") })
		add("an Emb too much", t, func(t *api.Type) { t.Emb = append(slices.Clone(t.Emb), false) })
		if kind != api.KInterface {
			add("a union too much", t, func(t *api.Type) { t.Sets = [][]api.Term{union(only(integer))} })
			add("an empty union too much", t, func(t *api.Type) { t.Sets = [][]api.Term{nil} })
		}
	}
	return all
}

// withoutFields lack each field that their kind names, or have a wrong one.
func withoutFields() []refused {
	all := []refused{{"an empty KParam", param("")}, {"a KInterface without its methods' types", api.Type{Kind: api.KInterface, Names: []string{"A"}}}}
	for _, name := range []string{"", "rune", "Int", "int ", " int", "int16", "float", "any", "error", "untyped int", "a.T", "nil", "void", "\x00", "bool,"} {
		all = append(all, refused{"a KBasic of another name", basic(name)})
	}
	for _, name := range []string{"", "int8", "uint", "float32", "float64", "nil", "rune", "Bool", "untyped int", "error", "a.T", " "} {
		all = append(all, refused{"a KUntyped of another name", untyped(name)})
	}
	for _, kind := range []int{api.KArray, api.KSlice, api.KPointer, api.KMap, api.KFunc} {
		all = append(all, refused{"no Args", of(kind)}, refused{"empty Args", api.Type{Kind: kind, Args: []api.Type{}}}, refused{"too many Args", of(kind, integer, integer, integer)},
			refused{"no Args, with a Len of -1", api.Type{Kind: kind, Len: -1}}, refused{"no Args, with a Len of 1", api.Type{Kind: kind, Len: 1}})
	}
	for _, kind := range kinds() {
		t := plain(kind)
		if kind != api.KNamed && len(t.Args) > 0 {
			t.Args = t.Args[1:]
			all = append(all, refused{"an arg too few", t})
		}
		t = plain(kind)
		if len(t.Names) > 0 {
			t.Names = t.Names[1:]
			all = append(all, refused{"a name too few", t})
		}
		t = plain(kind)
		if len(t.Emb) > 0 {
			t.Emb = t.Emb[1:]
			all = append(all, refused{"an Emb too few", t})
			t.Emb = nil
			all = append(all, refused{"no Emb", t})
		}
	}
	return all
}

func withWrongLengths() []refused {
	var all []refused
	for _, length := range []int{-1, 1<<20 + 1, 1 << 21, 1 << 32, 1<<32 + 1, math.MaxInt, math.MinInt} {
		all = append(all, refused{"an array's Len", array(length, integer)}, refused{"an array's Len inside", pointer(array(length, integer))})
	}
	for _, length := range []int{-1, 0, 1, 3, 4, 1<<32 + 2, math.MaxInt, math.MinInt} {
		all = append(all, refused{"a function's Len", api.Type{Kind: api.KFunc, Len: length, Args: []api.Type{integer, integer, integer}}})
	}
	for _, length := range []int{-1, 0, math.MaxInt, math.MinInt} {
		all = append(all, refused{"a function's Len without Args", api.Type{Kind: api.KFunc, Len: length}})
	}
	return all
}

// insides put a type into another one at each place where one stands, but as a function's result.
func insides() map[string]func(t api.Type) api.Type {
	return map[string]func(t api.Type) api.Type{
		"argument":       func(t api.Type) api.Type { return named("a.T", t) },
		"second":         func(t api.Type) api.Type { return named("a.T", integer, t) },
		"array":          func(t api.Type) api.Type { return array(1, t) },
		"slice":          slice,
		"pointer":        pointer,
		"key":            func(t api.Type) api.Type { return mapOf(t, integer) },
		"element":        func(t api.Type) api.Type { return mapOf(integer, t) },
		"parameter":      func(t api.Type) api.Type { return function(void(), t) },
		"last parameter": func(t api.Type) api.Type { return function(integer, integer, t) },
		"field":          func(t api.Type) api.Type { return structOf(member{name: "a", t: t}) },
		"last field":     func(t api.Type) api.Type { return structOf(member{name: "b", t: integer}, member{name: "a", t: t}) },
		"method":         func(t api.Type) api.Type { return methods(member{name: "M", t: function(void(), t)}) },
		"term":           func(t api.Type) api.Type { return sets(union(only(t))) },
		"tilde":          func(t api.Type) api.Type { return sets(union(tilde(t))) },
		"last term":      func(t api.Type) api.Type { return sets(union(only(integer)), union(only(integer), only(t))) },
	}
}

func withWrongParts() []refused {
	var all []refused
	for where, inside := range insides() {
		for _, t := range []api.Type{of(api.KNil), untyped("int"), untyped("bool"), void(), {}, basic("x"), slice(void())} {
			all = append(all, refused{where, inside(t)}, refused{where + " of a slice", slice(inside(t))}, refused{where + " of a term", sets(union(only(inside(t))))})
		}
	}
	for _, t := range []api.Type{of(api.KNil), untyped("int"), {}, slice(void()), {Kind: api.KVoid, Len: 1}, {Kind: api.KVoid, Name: "void"}, of(api.KVoid, integer)} {
		all = append(all, refused{"as a result", function(t)}, refused{"as a method's result", methods(member{name: "M", t: function(t)})})
	}
	return all
}

func withWrongMembers() []refused {
	plainly := function(void())
	all := []refused{
		{"two fields of one name", structOf(member{name: "a", t: integer}, member{name: "a", t: integer})},
		{"two fields of one name, apart", structOf(member{name: "a", t: integer}, member{name: "_", t: integer}, member{name: "b", t: text}, member{name: "a", t: text})},
		{"a field with an embedded one's name", structOf(member{name: "T", t: integer}, member{name: "T", t: named("a.T"), emb: true})},
		{"two embedded fields of one name", structOf(member{name: "T", t: named("b.T"), emb: true}, member{name: "T", t: pointer(named("a.T")), emb: true})},
		{"two methods of one name", methods(member{name: "A", t: plainly}, member{name: "A", t: plainly})},
		{"a method that is called _", methods(member{name: "_", t: plainly})},
		{"a method that is called _, behind another one", methods(member{name: "A", t: plainly}, member{name: "_", t: plainly})},
		{"methods that fall", methods(member{name: "B", t: plainly}, member{name: "A", t: plainly})},
		{"methods that fall at the end", methods(member{name: "A", t: plainly}, member{name: "C", t: plainly}, member{name: "B", t: plainly})},
		{"methods that rise, but not by bytes", methods(member{name: "a", t: plainly}, member{name: "B", t: plainly})},
		{"methods that rise by length", methods(member{name: "b", t: plainly}, member{name: "aa", t: plainly})},
		{"a union without a term", sets(nil)},
		{"a union without a term, empty", sets([]api.Term{})},
		{"a union without a term, behind another one", sets(union(only(integer)), nil)},
		{"a union without a term, inside", slice(sets(nil))},
		{"a method without a function", methods(member{name: "A", t: integer})},
		{"a method with a pointer to one", methods(member{name: "A", t: pointer(plainly)})},
		{"a method with nothing", methods(member{name: "A", t: void()})},
		{"a method with a declared type", methods(member{name: "A", t: plainly}, member{name: "B", t: named("a.T")})},
	}
	for _, name := range []string{"", " ", "1", "1a", "a b", "a.b", "a-b", "a,", "é", "a\x00", "\xff", "a\n", "$", "~a", "a~1", "error ", "a/b"} {
		all = append(all, refused{"a field's name", structOf(member{name: name, t: integer})}, refused{"a method's name", methods(member{name: name, t: plainly})})
	}
	return append(all, withWrongEmbedding()...)
}

func withWrongEmbedding() []refused {
	var all []refused
	add := func(why, name string, t api.Type) {
		all = append(all, refused{"embedded: " + why, structOf(member{name: name, t: t, emb: true})})
	}
	inner := named("a/b.T", integer)
	for _, name := range []string{"U", "t", "TT", "b", "a", "_", "a/b.T", ".T", "T[int]", "", "T "} {
		add("another name", name, inner)
		add("another name, by a pointer", name, pointer(inner))
	}
	add("another name of error", "Error", named("error"))
	add("the name of a path", "a", named("a.T"))
	add("a name of a path's end", "b.T", named("a.b.T"))
	add("a basic type", "int", integer)
	add("a pointer to a basic type", "int", pointer(integer))
	add("a parameter", "P", param("P"))
	add("a parameter with a dot", "P", param("a.P"))
	add("a pointer to a pointer", "T", pointer(pointer(inner)))
	add("a slice", "T", slice(inner))
	add("an array", "T", array(1, inner))
	add("a map", "T", mapOf(inner, inner))
	add("an interface", "any", of(api.KInterface))
	add("a struct", "T", structOf(member{name: "T", t: inner, emb: true}))
	add("a pointer to nothing", "T", of(api.KPointer))
	add("a pointer to two", "T", of(api.KPointer, inner, inner))
	add("a declared type of a wrong name", "T", named("T"))
	add("a declared type of a wrong number", "T", named("a~00.T"))
	add("a declared type without a name", "", named("a."))
	return all
}

// selfHolding stand in themselves.
func selfHolding() []refused {
	args := make([]api.Type, 1)
	args[0] = api.Type{Kind: api.KSlice, Args: args}
	wide := make([]api.Type, 2)
	wide[0], wide[1] = api.Type{Kind: api.KMap, Args: wide}, api.Type{Kind: api.KMap, Args: wide}
	terms := make([]api.Term, 3)
	for i := range terms {
		terms[i].Type = sets(terms, terms)
	}
	many := make([]api.Type, 4000)
	for i := range many {
		many[i] = named("a.T", many...)
	}
	return []refused{{"a slice of itself", args[0]}, {"a map of itself", wide[0]}, {"an interface of itself", terms[0].Type}, {"arguments of themselves", many[0]}}
}

func TestMayOfEveryKind(t *testing.T) {
	for _, kind := range kinds() {
		if !types.May(plain(kind)) {
			t.Errorf("P11.1: kind %d may not be", kind)
		}
	}
}

func TestMayNot(t *testing.T) {
	for _, x := range refusedTypes() {
		if types.May(x.Type) {
			t.Errorf("P11.1: %s may be: %s", x.why, brief(x.Type))
		}
	}
}

// Each place where a type stands takes all that are no KNil, KUntyped, KVoid.
func TestMayInside(t *testing.T) {
	for where, inside := range insides() {
		for _, kind := range kinds() {
			want := kind < api.KNil
			if got := types.May(inside(plain(kind))); got != want {
				t.Errorf("P11.1: kind %d as %s: %v", kind, where, got)
			}
		}
	}
	for _, kind := range kinds() {
		want := kind < api.KNil || kind == api.KVoid
		for _, x := range []api.Type{function(plain(kind)), function(plain(kind), integer, integer), methods(member{name: "M", t: function(plain(kind))})} {
			if got := types.May(x); got != want {
				t.Errorf("P11.1: kind %d as a result: %v", kind, got)
			}
		}
	}
}

func TestMayOfLengths(t *testing.T) {
	for _, length := range []int{0, 1, 2, 1<<20 - 1, 1 << 20} {
		if !types.May(array(length, integer)) {
			t.Errorf("P11.1: an array of %d may not be", length)
		}
	}
}

// An empty list is as a nil one, where there are elements and where there are none.
func TestMayOfEmptyLists(t *testing.T) {
	for _, kind := range kinds() {
		x := plain(kind)
		x.Args, x.Names, x.Emb, x.Sets = emptied(x.Args), emptied(x.Names), emptied(x.Emb), emptied(x.Sets)
		if !types.May(x) || !types.Eq(x, plain(kind)) || types.Text(x) != types.Text(plain(kind)) {
			t.Errorf("P0.4: kind %d with empty lists", kind)
		}
	}
	for _, kind := range []int{api.KStruct, api.KInterface} {
		x := api.Type{Kind: kind, Args: []api.Type{}, Names: []string{}, Emb: []bool{}, Sets: [][]api.Term{}}
		if !types.May(x) || !types.Eq(x, of(kind)) {
			t.Errorf("P0.4: kind %d with nothing but empty lists", kind)
		}
	}
}

func emptied[T any](list []T) []T {
	if list == nil {
		return []T{}
	}
	return list
}

func TestMayLikeModel(t *testing.T) {
	random := newMaker(111)
	counts := [2]int{}
	for range 40000 {
		x := random.aType(random.Intn(4))
		for range 1 + random.Intn(2) {
			if got, want := types.May(x), modelMay(x); got != want {
				t.Fatalf("P11.1: May(%s) is %v", brief(x), got)
			}
			x = random.changed(x)
		}
		got, want := types.May(x), modelMay(x)
		if got != want {
			t.Fatalf("P11.1: May(%s) is %v", brief(x), got)
		}
		if got {
			counts[0]++
		} else {
			counts[1]++
		}
		if !got && (types.Text(x) != "" || types.Eq(x, x)) {
			t.Fatalf("P11: %s may not be, but is something", brief(x))
		}
	}
	if min(counts[0], counts[1]) < 5000 {
		t.Errorf("only %v may be and may not", counts)
	}
}
