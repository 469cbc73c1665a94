package env_test

import (
	"maps"
	"math"
	"slices"

	"sterling/api"
)

// world declares what the corpus' types are of, by how many parameters there are.
func world() []api.Decl {
	return decls(
		decl("w.T", integer),
		generic("w.G", 1, slice(param("w.G#0"))),
		generic("w.H", 2, mapOf(param("w.H#0"), param("w.H#1"))),
		generic("w.K", 3, function(param("w.K#2"), param("w.K#0"), param("w.K#1"))),
		generic("w~3.H", 2, field(param("w~3.H#1"))),
	)
}

// kinds are all that there are.
func kinds() []int {
	return []int{
		api.KBasic, api.KNamed, api.KParam, api.KArray, api.KSlice, api.KPointer, api.KMap, api.KFunc, api.KStruct, api.KInterface,
		api.KNil, api.KUntyped, api.KVoid,
	}
}

// plain is a type of that kind that may be, of the world's.
func plain(kind int) api.Type {
	switch kind {
	case api.KBasic:
		return integer
	case api.KNamed:
		return named("w.H", text, slice(integer))
	case api.KParam:
		return param("P")
	case api.KArray:
		return array(3, integer)
	case api.KSlice:
		return slice(integer)
	case api.KPointer:
		return pointer(integer)
	case api.KMap:
		return mapOf(text, integer)
	case api.KFunc:
		return function(text, integer, integer)
	case api.KStruct:
		return structOf(member{name: "a", t: integer}, member{name: "T", t: named("w.T"), emb: true})
	case api.KInterface:
		return both(methods(member{name: "A", t: nullary}, member{name: "B", t: function(integer)}), union(only(integer), tilde(text)), union(only(text)))
	case api.KUntyped:
		return untyped("int")
	}
	return of(kind)
}

// bare are those that stand in no others.
func bare() []api.Type {
	all := list(null(), void())
	for _, name := range names("bool", "string", "int", "float") {
		all = append(all, untyped(name))
	}
	return all
}

// places are where a type may stand in another one of the world's.
func places() map[string]func(t api.Type) api.Type {
	all := map[string]func(t api.Type) api.Type{
		"argument":       func(t api.Type) api.Type { return named("w.G", t) },
		"last argument":  func(t api.Type) api.Type { return named("w.K", integer, text, t) },
		"array":          func(t api.Type) api.Type { return array(7, t) },
		"slice":          slice,
		"pointer":        pointer,
		"key":            func(t api.Type) api.Type { return mapOf(t, integer) },
		"element":        func(t api.Type) api.Type { return mapOf(integer, t) },
		"parameter":      func(t api.Type) api.Type { return function(void(), t) },
		"last parameter": func(t api.Type) api.Type { return function(text, integer, integer, t) },
		"result":         func(t api.Type) api.Type { return function(t, integer) },
		"field":          field,
		"last field": func(t api.Type) api.Type {
			return structOf(member{name: "T", t: pointer(named("w.T")), emb: true}, member{name: "_", t: text}, member{name: "_", t: t})
		},
		"embedded": func(t api.Type) api.Type { return embedding("G", named("w.G", t)) },
		"embedded by a pointer": func(t api.Type) api.Type {
			return structOf(member{name: "a", t: integer}, member{name: "H", t: pointer(named("w~3.H", text, t)), emb: true})
		},
	}
	maps.Copy(all, placesOfInterfaces())
	return all
}

func placesOfInterfaces() map[string]func(t api.Type) api.Type {
	return map[string]func(t api.Type) api.Type{
		"method": func(t api.Type) api.Type { return methods(member{name: "M", t: function(void(), t)}) },
		"last method": func(t api.Type) api.Type {
			return methods(member{name: "A", t: function(integer)}, member{name: "M", t: function(text, integer, t)})
		},
		"method's result": func(t api.Type) api.Type {
			return methods(member{name: "A", t: nullary}, member{name: "M", t: function(t, text)})
		},
		"term":       func(t api.Type) api.Type { return sets(union(only(t))) },
		"tilde":      func(t api.Type) api.Type { return sets(union(tilde(t))) },
		"last term":  func(t api.Type) api.Type { return sets(union(only(integer), tilde(text), only(t))) },
		"last tilde": func(t api.Type) api.Type { return sets(union(tilde(integer)), union(only(text), tilde(t))) },
		"only term beside methods": func(t api.Type) api.Type {
			return both(methods(member{name: "A", t: nullary}), union(only(t)))
		},
	}
}

// slots are where New is given a type: with it there, all else is as it must be.
func slots() map[string]func(t api.Type) ([]api.Decl, []api.Var) {
	with := func(of func(t api.Type) api.Decl) func(t api.Type) ([]api.Decl, []api.Var) {
		return func(t api.Type) ([]api.Decl, []api.Var) { return append(world(), of(t)), nil }
	}
	return map[string]func(t api.Type) ([]api.Decl, []api.Var){
		"Under":           with(func(t api.Type) api.Decl { return generic("p.S", 2, t) }),
		"constraint":      with(func(t api.Type) api.Decl { return constrained("p.S", list(t, anything), integer) }),
		"last constraint": with(func(t api.Type) api.Decl { return constrained("p.S", list(anything, t), integer) }),
		"Sig's parameter": with(func(t api.Type) api.Decl { return generic("p.S", 2, integer, method("M", function(void(), t))) }),
		"Sig's result":    with(func(t api.Type) api.Decl { return generic("p.S", 2, integer, method("M", function(t, integer))) }),
		"last Sig": with(func(t api.Type) api.Decl {
			return generic("p.S", 2, integer, method("M", nullary), method("A", function(text, integer, t)))
		}),
		"params": func(t api.Type) ([]api.Decl, []api.Var) { return world(), params(further("P", t)) },
		"last params": func(t api.Type) ([]api.Decl, []api.Var) {
			return world(), params(further("P", anything), further("A", integer), further("O", t))
		},
	}
}

// refusedTypes may not be, but stand as arguments of calls.
func refusedTypes() map[string]api.Type {
	one := integer
	all := map[string]api.Type{
		"nothing":                      {},
		"an unknown kind":              of(14),
		"a kind below all":             of(-1),
		"a huge kind":                  of(math.MaxInt),
		"a kind and 2^32":              of(1<<32+api.KSlice, integer),
		"a slice of nothing":           of(api.KSlice),
		"a slice of two":               of(api.KSlice, one, one),
		"a basic type of no name":      basic(""),
		"a basic type of another name": basic("rune"),
		"a basic type with an arg":     {Kind: api.KBasic, Name: "int", Args: list(one)},
		"a basic type with a Len":      {Kind: api.KBasic, Name: "int", Len: 1},
		"a parameter of no name":       param(""),
		"a declared type of no name":   named(""),
		"a declared type of no path":   named("T"),
		"a declared type with a Len":   {Kind: api.KNamed, Name: "w.T", Len: 1},
		"a number with zeros ahead":    named("w~01.T"),
		"an array below 0":             array(-1, one),
		"an array that is too long":    array(1<<20+1, one),
		"a function of another Len":    {Kind: api.KFunc, Len: 2, Args: list(one, one)},
		"a function of no result":      {Kind: api.KFunc},
		"nothing as a parameter":       function(one, void()),
		"a slice of void":              slice(void()),
		"a slice of nil":               slice(null()),
		"a slice of a constant":        slice(untyped("int")),
		"a slice of a KNone":           slice(api.Type{}),
		"nil as a result":              function(null(), one),
		"nil with a name":              {Kind: api.KNil, Name: "nil"},
		"void with an arg":             of(api.KVoid, one),
		"a constant of no kind":        untyped(""),
		"a constant of another kind":   untyped("int8"),
	}
	for _, others := range []map[string]api.Type{refusedMembers(), refusedBounds(), selfHolding()} {
		maps.Copy(all, others)
	}
	return all
}

// refusedMembers have fields, methods or unions that may not be.
func refusedMembers() map[string]api.Type {
	return map[string]api.Type{
		"two fields of one name":    structOf(member{name: "a", t: integer}, member{name: "a", t: text}),
		"a field of no name":        structOf(member{name: "", t: integer}),
		"an Emb too few":            {Kind: api.KStruct, Names: names("a"), Args: list(integer)},
		"a basic type, embedded":    embedding("int", integer),
		"another name, embedded":    embedding("U", named("w.T")),
		"methods that fall":         methods(member{name: "B", t: nullary}, member{name: "A", t: nullary}),
		"a method that is no func":  methods(member{name: "A", t: integer}),
		"a method of no name":       methods(member{name: "_", t: nullary}),
		"a union of nothing":        sets(nil),
		"a second union of nothing": sets(union(only(integer)), nil),
		"a term of nothing":         sets(union(only(integer), only(api.Type{}))),
		"a term of nil":             sets(union(only(integer), tilde(null()))),
	}
}

// refusedBounds are too deep or too great.
func refusedBounds() map[string]api.Type {
	return map[string]api.Type{
		"deeper than may be":   nested(integer, api.MaxDepth),
		"greater than may be":  great(api.MaxSize + 1),
		"greater by its terms": sets(slices.Repeat(union(tilde(integer)), api.MaxSize)),
		"far too deep":         nested(integer, 1<<16),
		"far too great":        great(1 << 20),
		"long lists":           {Kind: api.KStruct, Names: make([]string, 1<<20), Emb: make([]bool, 1<<20), Args: repeated(integer, 1<<20)},
	}
}

// great is a type of that many types.
func great(count int) api.Type { return function(integer, repeated(text, count-2)...) }

// selfHolding stand in themselves.
func selfHolding() map[string]api.Type {
	one := make([]api.Type, 1)
	one[0] = of(api.KSlice, one...)
	two := make([]api.Type, 2)
	two[0], two[1] = of(api.KMap, two...), of(api.KMap, two...)
	terms := make([]api.Term, 3)
	for i := range terms {
		terms[i].Type = sets(terms, terms)
	}
	many := append(repeated(integer, 3000), integer)
	many[3000] = api.Type{Kind: api.KFunc, Len: 3000, Args: many}
	return map[string]api.Type{"a slice of itself": one[0], "a map of itself": two[0], "an interface of itself": terms[0].Type, "parameters of themselves": many[3000]}
}
