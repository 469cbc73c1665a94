package subst_test

import (
	"math/rand"
	"slices"
	"testing"

	"sterling/api"
	"sterling/subst"
	"sterling/types"
)

// The model writes all out and asks afterwards.

func parts(t api.Type) []api.Type {
	all := slices.Clone(t.Args)
	for _, union := range t.Sets {
		for _, term := range union {
			all = append(all, term.Type)
		}
	}
	return all
}

// allParts are t and all types in it.
func allParts(t *api.Type) []*api.Type {
	all := []*api.Type{t}
	for i := range t.Args {
		all = append(all, allParts(&t.Args[i])...)
	}
	for _, union := range t.Sets {
		for i := range union {
			all = append(all, allParts(&union[i].Type)...)
		}
	}
	return all
}

func deepCopy(t api.Type) api.Type {
	t.Args, t.Names, t.Emb, t.Sets = slices.Clone(t.Args), slices.Clone(t.Names), slices.Clone(t.Emb), slices.Clone(t.Sets)
	for i, arg := range t.Args {
		t.Args[i] = deepCopy(arg)
	}
	for i, union := range t.Sets {
		t.Sets[i] = slices.Clone(union)
		for j, term := range union {
			t.Sets[i][j].Type = deepCopy(term.Type)
		}
	}
	return t
}

func modelPut(t api.Type, names []string, args []api.Type) api.Type {
	if !types.May(t) {
		return api.Type{}
	}
	t = deepCopy(t)
	for _, part := range allParts(&t) {
		if part.Kind != api.KParam {
			continue
		}
		if i := slices.Index(names, part.Name); i >= 0 && i < len(args) {
			*part = deepCopy(args[i])
		}
	}
	if !types.May(t) {
		return api.Type{}
	}
	return t
}

func modelFree(t api.Type) []string {
	var all []string
	for _, part := range allParts(&t) {
		if part.Kind == api.KParam && !slices.Contains(all, part.Name) && types.May(t) {
			all = append(all, part.Name)
		}
	}
	slices.Sort(all)
	return all
}

func modelSize(t api.Type) int {
	if !types.May(t) {
		return 0
	}
	return len(allParts(&t))
}

// maker makes types at random.
type maker struct {
	*rand.Rand
}

func newMaker(seed int64) maker { return maker{rand.New(rand.NewSource(seed))} }

func pick[T any](s maker, list ...T) T { return list[s.Intn(len(list))] }

// aType is one that may be and stands in others.
func (s maker) aType(deep int) api.Type {
	if deep == 0 {
		return pick(s, p, q, r, param("p.T#0"), p, q, integer, text, named("error"), named("a/b.T"))
	}
	inner := func() api.Type { return s.aType(s.Intn(deep)) }
	switch s.Intn(9) {
	case 0:
		return array(s.Intn(3), inner())
	case 1:
		return slice(inner())
	case 2:
		return pointer(inner())
	case 3:
		return mapOf(inner(), inner())
	case 4:
		return s.aFunction(deep)
	case 5:
		return s.aStruct(deep)
	case 6, 7:
		return s.anInterface(deep)
	}
	return named(pick(s, "a.T", "b.T"), s.types(deep)...)
}

func (s maker) types(deep int) []api.Type {
	var all []api.Type
	for range s.Intn(4) {
		all = append(all, s.aType(s.Intn(deep)))
	}
	return all
}

func (s maker) aFunction(deep int) api.Type {
	if s.Intn(3) == 0 {
		return function(void(), s.types(deep)...)
	}
	return function(s.aType(s.Intn(deep)), s.types(deep)...)
}

func (s maker) aStruct(deep int) api.Type {
	var fields []member
	for _, name := range pick(s, names(), names("a"), names("_", "_"), names("b", "a")) {
		fields = append(fields, member{name: name, t: s.aType(s.Intn(deep))})
	}
	if s.Intn(2) == 0 {
		embedded := named("a/b.T", s.types(deep)...)
		fields = append(fields, member{name: "T", t: pick(s, embedded, pointer(embedded)), emb: s.Intn(3) > 0})
	}
	return structOf(fields...)
}

func (s maker) anInterface(deep int) api.Type {
	var all []member
	for _, name := range pick(s, nil, names("M"), names("A", "M")) {
		all = append(all, member{name: name, t: s.aFunction(deep)})
	}
	t := methods(all...)
	for range s.Intn(3) {
		var terms []api.Term
		for range 1 + s.Intn(3) {
			terms = append(terms, api.Term{Tilde: s.Intn(2) == 0, Type: s.aType(s.Intn(deep))})
		}
		t.Sets = append(t.Sets, terms)
	}
	return t
}

// lists are names and args that are put, not always as many of both.
func (s maker) lists() ([]string, []api.Type) {
	var all []string
	args := list()
	for range s.Intn(6) {
		all = append(all, pick(s, "P", "Q", "R", "p.T#0", "P", "Q", "int", ""))
	}
	for range len(all) + s.Intn(5)/2 - 1 {
		args = append(args, s.anArg())
	}
	return all, args
}

// anArg is now and then one that may not be, or stands in no others, or is great.
func (s maker) anArg() api.Type {
	switch s.Intn(40) {
	case 0:
		return pick(s, null(), untyped("int"), void(), void(), void())
	case 1:
		return pick(s, api.Type{}, slice(void()), embedding("P", p), param(""), sets(nil))
	case 2:
		return sized(api.MaxSize - s.Intn(20))
	case 3:
		return nested(p, api.MaxDepth-1-s.Intn(10))
	}
	return s.aType(s.Intn(4))
}

func TestLikeModel(t *testing.T) {
	random := newMaker(121)
	counts := [2]int{}
	for range 60000 {
		x := random.aType(random.Intn(5))
		names, args := random.lists()
		want := modelPut(x, names, args)
		got := subst.Put(x, names, args)
		if whole(got) != whole(want) {
			t.Fatalf("P12.1: Put(%s, %q) is %s, not %s", brief(x), names, brief(got), brief(want))
		}
		counts[min(got.Kind, 1)]++
		expectFree(t, "at random", x, modelFree(x)...)
		expectSize(t, "at random", x, modelSize(x))
		expectFree(t, "put at random", got, modelFree(want)...)
		expectSize(t, "put at random", got, modelSize(want))
		if t.Failed() {
			return
		}
	}
	if min(counts[0], counts[1]) < 1000 {
		t.Errorf("only %v may not be and may", counts)
	}
}

// Two puts, one behind the other, are one of what the first one puts with the second one done to it.
func TestPutTwice(t *testing.T) {
	random := newMaker(123)
	first, second := names("P", "Q", "R", "p.T#0"), names("P", "R", "Q")
	for range 20000 {
		x := random.aType(random.Intn(4))
		args, others := list(), list()
		for range first {
			args = append(args, random.aType(random.Intn(3)))
		}
		for range second {
			others = append(others, random.aType(random.Intn(3)))
		}
		once := list()
		for _, arg := range args {
			once = append(once, subst.Put(arg, second, others))
		}
		twice := subst.Put(subst.Put(x, first, args), second, others)
		if want := subst.Put(x, first, once); whole(twice) != whole(want) {
			t.Fatalf("P12.1: twice: %s, not %s", brief(twice), brief(want))
		}
	}
}
