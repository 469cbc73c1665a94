package types_test

import (
	"math/rand"
	"slices"

	"sterling/api"
)

// maker makes types at random.
type maker struct {
	*rand.Rand
}

func newMaker(seed int64) maker { return maker{rand.New(rand.NewSource(seed))} }

func pick[T any](s maker, list ...T) T { return list[s.Intn(len(list))] }

// aType is one that may be and stands in others; those with few parts are likely, so that some are the same.
func (s maker) aType(deep int) api.Type {
	if deep == 0 {
		return pick(s, integer, text, basic("uint8"), named("error"), named("a/b.T"), named("a~2.T"), param("P"), param("p.T#0"), param("a,b]; :"))
	}
	inner := func() api.Type { return s.aType(s.Intn(deep)) }
	switch s.Intn(9) {
	case 0:
		return array(s.Intn(3), inner())
	case 1:
		return slice(inner())
	case 2:
		return pointer(inner())
	case 3:
		return mapOf(inner(), inner())
	case 4:
		return s.aFunction(deep)
	case 5:
		return s.aStruct(deep)
	case 6, 7:
		return s.anInterface(deep)
	}
	return named(pick(s, "a.T", "b.T"), s.types(deep)...)
}

func (s maker) types(deep int) []api.Type {
	var list []api.Type
	for range s.Intn(3) {
		list = append(list, s.aType(s.Intn(deep)))
	}
	return list
}

func (s maker) aFunction(deep int) api.Type {
	if s.Intn(2) == 0 {
		return function(void(), s.types(deep)...)
	}
	return function(s.aType(s.Intn(deep)), s.types(deep)...)
}

func (s maker) aStruct(deep int) api.Type {
	var fields []member
	for _, name := range pick(s, []string{}, []string{"a"}, []string{"_", "_"}, []string{"a", "b"}, []string{"b", "a"}, []string{"a", "_", "range"}) {
		fields = append(fields, member{name: name, t: s.aType(s.Intn(deep))})
	}
	if s.Intn(2) == 0 {
		embedded := named("a/b.T", s.types(deep)...)
		fields = append(fields, member{name: "T", t: pick(s, embedded, pointer(embedded)), emb: s.Intn(3) > 0})
	}
	return structOf(fields...)
}

func (s maker) anInterface(deep int) api.Type {
	var list []member
	for _, name := range pick(s, nil, nil, []string{"M"}, []string{"A", "M"}, []string{"M", "m"}) {
		list = append(list, member{name: name, t: s.aFunction(deep)})
	}
	t := methods(list...)
	for range s.Intn(4) {
		var terms []api.Term
		for range 1 + s.Intn(3) {
			terms = append(terms, api.Term{Tilde: s.Intn(2) == 0, Type: s.aType(s.Intn(deep))})
		}
		t.Sets = append(t.Sets, terms)
	}
	return t
}

// turned is t with its unions and their terms in other orders and some of them more than once.
func (s maker) turned(t api.Type) api.Type {
	t = deepCopy(t)
	// From within: what is outside is then copied with it.
	for _, part := range slices.Backward(allParts(&t)) {
		for i := range part.Sets {
			part.Sets[i] = shuffled(s, part.Sets[i])
		}
		part.Sets = shuffled(s, part.Sets)
	}
	return deepCopy(t)
}

func shuffled[T any](s maker, list []T) []T {
	list = slices.Clone(list)
	for range s.Intn(2) * len(list) {
		list = append(list, list[s.Intn(len(list))])
	}
	s.Shuffle(len(list), func(i, j int) { list[i], list[j] = list[j], list[i] })
	return list
}

// changed is t with one field of one type in it changed; it may be no more.
func (s maker) changed(t api.Type) api.Type {
	t = deepCopy(t)
	part := pick(s, allParts(&t)...)
	switch s.Intn(12) {
	case 0:
		part.Kind = s.Intn(16) - 1
	case 1:
		part.Name = pick(s, "", "int", "error", "a.T", "a~0.U", "a~01.T", "P", "float", "rune", "T")
	case 2:
		part.Len = pick(s, -1, 0, 1, 2, 1<<20, 1<<20+1, part.Len+1, part.Len-1)
	case 3:
		part.Args = changedList(s, part.Args, s.aType(s.Intn(2)))
	case 4:
		part.Names = changedList(s, part.Names, pick(s, "a", "b", "_", "T", "M", "m", "func", "", "1", "a.b"))
	case 5:
		part.Emb = changedList(s, part.Emb, s.Intn(2) == 0)
	case 6:
		part.Sets = changedList(s, part.Sets, union(tilde(integer)))
	case 7:
		part.Sets = changedList(s, part.Sets, nil)
	case 8, 9:
		if len(part.Sets) > 0 {
			i := s.Intn(len(part.Sets))
			part.Sets[i] = changedList(s, part.Sets[i], pick(s, tilde(integer), only(integer), only(void())))
		}
	case 10:
		*part = pick(s, of(api.KNil), untyped("int"), void(), integer, api.Type{})
	case 11:
		*part = s.aType(s.Intn(3))
	}
	return t
}

// changedList is list with an element more, less, or another one.
func changedList[T any](s maker, list []T, element T) []T {
	i := s.Intn(len(list) + 1)
	switch s.Intn(3) {
	case 0:
		return slices.Insert(list, i, element)
	case 1:
		return slices.Delete(list, i, min(i+1, len(list)))
	}
	if i < len(list) {
		list[i] = element
	}
	return list
}

func deepCopy(t api.Type) api.Type {
	t.Args, t.Names, t.Emb = slices.Clone(t.Args), slices.Clone(t.Names), slices.Clone(t.Emb)
	for i, arg := range t.Args {
		t.Args[i] = deepCopy(arg)
	}
	t.Sets = slices.Clone(t.Sets)
	for i, union := range t.Sets {
		t.Sets[i] = slices.Clone(union)
		for j, term := range union {
			t.Sets[i][j].Type = deepCopy(term.Type)
		}
	}
	return t
}

// allParts are t and all types in it.
func allParts(t *api.Type) []*api.Type {
	parts := []*api.Type{t}
	for i := range t.Args {
		parts = append(parts, allParts(&t.Args[i])...)
	}
	for _, union := range t.Sets {
		for i := range union {
			parts = append(parts, allParts(&union[i].Type)...)
		}
	}
	return parts
}
