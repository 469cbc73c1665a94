package subst_test

import (
	"maps"
	"math"
	"slices"

	"sterling/api"
)

// kinds are all that there are.
func kinds() []int {
	return []int{
		api.KBasic, api.KNamed, api.KParam, api.KArray, api.KSlice, api.KPointer, api.KMap, api.KFunc, api.KStruct, api.KInterface,
		api.KNil, api.KUntyped, api.KVoid,
	}
}

// plain is a type of that kind that may be, and how many types it is. But for KParam it has no parameter.
func plain(kind int) (api.Type, int) {
	switch kind {
	case api.KBasic:
		return integer, 1
	case api.KNamed:
		return named("a/b.T", text, slice(integer)), 4
	case api.KParam:
		return param("p.T#0"), 1
	case api.KArray:
		return array(3, integer), 2
	case api.KSlice:
		return slice(integer), 2
	case api.KPointer:
		return pointer(integer), 2
	case api.KMap:
		return mapOf(text, integer), 3
	case api.KFunc:
		return function(text, integer, integer), 4
	case api.KStruct:
		return structOf(member{name: "a", t: integer}, member{name: "T", t: named("a.T"), emb: true}), 3
	case api.KInterface:
		return both(methods(member{name: "A", t: function(void())}, member{name: "B", t: function(integer)}), union(only(integer), tilde(text)), union(only(text))), 8
	case api.KUntyped:
		return untyped("int"), 1
	}
	return of(kind), 1
}

// place is where a type may stand in another one: how many types that has beside it, and how deep it stands in there.
type place struct {
	inside       func(t api.Type) api.Type
	others, deep int
}

// places are all but those of a result.
func places() map[string]place {
	return map[string]place{
		"argument":       {func(t api.Type) api.Type { return named("a.T", t) }, 1, 1},
		"last argument":  {func(t api.Type) api.Type { return named("a.T", integer, text, t) }, 3, 1},
		"array":          {func(t api.Type) api.Type { return array(7, t) }, 1, 1},
		"slice":          {slice, 1, 1},
		"pointer":        {pointer, 1, 1},
		"key":            {func(t api.Type) api.Type { return mapOf(t, integer) }, 2, 1},
		"element":        {func(t api.Type) api.Type { return mapOf(integer, t) }, 2, 1},
		"parameter":      {func(t api.Type) api.Type { return function(void(), t) }, 2, 1},
		"last parameter": {func(t api.Type) api.Type { return function(text, integer, integer, t) }, 4, 1},
		"field":          {func(t api.Type) api.Type { return structOf(member{name: "a", t: t}) }, 1, 1},
		"last field": {func(t api.Type) api.Type {
			return structOf(member{name: "T", t: pointer(named("a.T")), emb: true}, member{name: "_", t: text}, member{name: "_", t: t})
		}, 4, 1},
		"embedded": {func(t api.Type) api.Type { return embedding("T", named("a.T", t)) }, 2, 2},
		"embedded by a pointer": {func(t api.Type) api.Type {
			return structOf(member{name: "a", t: integer}, member{name: "T", t: pointer(named("a~3.T", text, t)), emb: true})
		}, 5, 3},
		"method": {func(t api.Type) api.Type { return methods(member{name: "M", t: function(void(), t)}) }, 3, 2},
		"last method": {func(t api.Type) api.Type {
			return methods(member{name: "A", t: function(integer)}, member{name: "M", t: function(text, integer, t)})
		}, 6, 2},
		"term":       {func(t api.Type) api.Type { return sets(union(only(t))) }, 1, 1},
		"tilde":      {func(t api.Type) api.Type { return sets(union(tilde(t))) }, 1, 1},
		"last term":  {func(t api.Type) api.Type { return sets(union(only(integer), tilde(text), only(t))) }, 3, 1},
		"last tilde": {func(t api.Type) api.Type { return sets(union(tilde(integer)), union(only(text), tilde(t))) }, 3, 1},
		"only term beside methods": {func(t api.Type) api.Type {
			return both(methods(member{name: "A", t: function(void())}), union(only(t)))
		}, 3, 1},
	}
}

// results are those of a result.
func results() map[string]place {
	return map[string]place{
		"result":                   {func(t api.Type) api.Type { return function(t) }, 1, 1},
		"result behind parameters": {func(t api.Type) api.Type { return function(t, integer, text) }, 3, 1},
		"method's result":          {func(t api.Type) api.Type { return methods(member{name: "M", t: function(t)}) }, 2, 2},
		"second method's result": {func(t api.Type) api.Type {
			return methods(member{name: "A", t: function(void())}, member{name: "M", t: function(t, text)})
		}, 5, 2},
		"result of a parameter":       {func(t api.Type) api.Type { return function(void(), function(t)) }, 3, 2},
		"result of a field":           {func(t api.Type) api.Type { return structOf(member{name: "f", t: function(t)}) }, 2, 2},
		"result of a result":          {func(t api.Type) api.Type { return function(function(t)) }, 2, 2},
		"result of a term":            {func(t api.Type) api.Type { return sets(union(tilde(function(t)), only(integer))) }, 3, 2},
		"result of a type's argument": {func(t api.Type) api.Type { return named("a.T", function(t)) }, 2, 2},
	}
}

// refusedTypes may not be, but stand as arguments of calls.
func refusedTypes() map[string]api.Type {
	all := map[string]api.Type{
		"nothing":                      {},
		"an unknown kind":              of(14),
		"a kind below all":             of(-1),
		"a huge kind":                  of(math.MaxInt),
		"a kind and 2^32":              of(1<<32+api.KSlice, integer),
		"a slice of nothing":           of(api.KSlice),
		"a slice of two":               of(api.KSlice, p, q),
		"a basic type of no name":      basic(""),
		"a basic type of another name": basic("rune"),
		"a basic type with an arg":     {Kind: api.KBasic, Name: "int", Args: list(p)},
		"a parameter of no name":       param(""),
		"a parameter with an arg":      {Kind: api.KParam, Name: "P", Args: list(integer)},
		"a parameter with a Len":       {Kind: api.KParam, Name: "P", Len: 1},
		"a parameter with Names":       {Kind: api.KParam, Name: "P", Names: names("P")},
		"a parameter with Emb":         {Kind: api.KParam, Name: "P", Emb: []bool{false}},
		"a parameter with Sets":        {Kind: api.KParam, Name: "P", Sets: [][]api.Term{{only(p)}}},
		"a declared type of no path":   named("T", p),
		"a number with zeros ahead":    named("a~01.T", p),
		"an array below 0":             array(-1, p),
		"an array that is too long":    array(1<<20+1, p),
		"a function of another Len":    {Kind: api.KFunc, Len: 2, Args: list(p, q)},
		"a function of no result":      {Kind: api.KFunc},
		"nothing as a parameter":       function(p, void()),
		"a slice of void":              slice(void()),
		"a slice of nil":               slice(null()),
		"a slice of a constant":        slice(untyped("int")),
		"a slice of a KNone":           slice(api.Type{}),
		"nil as a result":              function(null(), p),
		"nil with a name":              {Kind: api.KNil, Name: "nil"},
		"void with an arg":             of(api.KVoid, p),
		"a constant of no kind":        untyped(""),
		"a constant of another kind":   untyped("int8"),
	}
	for _, others := range []map[string]api.Type{refusedMembers(), refusedBounds(), selfHolding()} {
		maps.Copy(all, others)
	}
	return all
}

// refusedMembers have fields, methods or unions that may not be.
func refusedMembers() map[string]api.Type {
	return map[string]api.Type{
		"two fields of one name":       structOf(member{name: "a", t: p}, member{name: "a", t: p}),
		"a field of no name":           structOf(member{name: "", t: p}),
		"a name too few":               {Kind: api.KStruct, Names: names("a"), Emb: []bool{false, false}, Args: list(p, q)},
		"an Emb too few":               {Kind: api.KStruct, Names: names("a", "b"), Emb: []bool{false}, Args: list(p, q)},
		"a parameter, embedded":        embedding("P", p),
		"a pointer to one, embedded":   embedding("P", pointer(p)),
		"another name, embedded":       embedding("U", named("a.T", p)),
		"methods that fall":            methods(member{name: "B", t: function(p)}, member{name: "A", t: function(p)}),
		"a method that is a parameter": methods(member{name: "A", t: p}),
		"a method of no name":          methods(member{name: "_", t: function(p)}),
		"a union of nothing":           sets(nil),
		"a second union of nothing":    sets(union(only(p)), nil),
		"a term of nothing":            sets(union(only(p), only(api.Type{}))),
		"a term of nil":                sets(union(only(p), tilde(null()))),
	}
}

// refusedBounds are too deep or too great.
func refusedBounds() map[string]api.Type {
	return map[string]api.Type{
		"deeper than may be":   nested(p, api.MaxDepth),
		"greater than may be":  named("a.T", repeated(p, api.MaxSize)...),
		"greater by its terms": sets(union(only(p)), slices.Repeat(union(tilde(q)), api.MaxSize)),
		"far too deep":         nested(p, 1<<16),
		"far too great":        named("a.T", repeated(p, 1<<20)...),
		"long lists":           {Kind: api.KStruct, Names: make([]string, 1<<20), Emb: make([]bool, 1<<20), Args: repeated(p, 1<<20)},
	}
}

// nested is t in that many slices.
func nested(t api.Type, count int) api.Type {
	for range count {
		t = slice(t)
	}
	return t
}

// selfHolding stand in themselves.
func selfHolding() map[string]api.Type {
	one := make([]api.Type, 1)
	one[0] = of(api.KSlice, one...)
	two := make([]api.Type, 2)
	two[0], two[1] = of(api.KMap, two...), of(api.KMap, two...)
	terms := make([]api.Term, 3)
	for i := range terms {
		terms[i].Type = sets(terms, terms)
	}
	many := append(repeated(p, 3000), p)
	many[3000] = named("a.T", many...)
	return map[string]api.Type{"a slice of itself": one[0], "a map of itself": two[0], "an interface of itself": terms[0].Type, "arguments of themselves": many[3000]}
}
