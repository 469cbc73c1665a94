package types_test

import (
	"slices"
	"testing"

	"sterling/api"
	"sterling/types"
)

// places are where the elements of a type's lists stand, those of their spare room too.
type places struct {
	types map[*api.Type]int
	names map[*string]int
	flags map[*bool]int
	terms map[*api.Term]int
	sets  map[*[]api.Term]int
}

func placesOf(list ...api.Type) places {
	p := places{map[*api.Type]int{}, map[*string]int{}, map[*bool]int{}, map[*api.Term]int{}, map[*[]api.Term]int{}}
	for _, t := range list {
		p.add(t)
	}
	return p
}

func (p places) add(t api.Type) {
	addPlaces(p.types, t.Args)
	addPlaces(p.names, t.Names)
	addPlaces(p.flags, t.Emb)
	addPlaces(p.sets, t.Sets)
	for _, arg := range t.Args {
		p.add(arg)
	}
	for _, union := range t.Sets {
		addPlaces(p.terms, union)
		for _, term := range union {
			p.add(term.Type)
		}
	}
}

func addPlaces[T any](seen map[*T]int, list []T) {
	list = list[:cap(list)]
	for i := range list {
		seen[&list[i]]++
	}
}

// areApart tells whether no place is counted twice.
func (p places) areApart() bool {
	return isOnce(p.types) && isOnce(p.names) && isOnce(p.flags) && isOnce(p.terms) && isOnce(p.sets)
}

func isOnce[T any](seen map[*T]int) bool {
	for _, count := range seen {
		if count > 1 {
			return false
		}
	}
	return true
}

func (p places) meet(q places) bool {
	return doMeet(p.types, q.types) || doMeet(p.names, q.names) || doMeet(p.flags, q.flags) || doMeet(p.terms, q.terms) || doMeet(p.sets, q.sets)
}

func doMeet[T any](a, b map[*T]int) bool {
	for place := range a {
		if b[place] > 0 {
			return true
		}
	}
	return false
}

// expectNoSharing asks that an answer shares no memory with an argument, and no two lists of it share any.
func expectNoSharing(t *testing.T, why string, answer api.Type, arguments ...api.Type) {
	t.Helper()
	own := placesOf(answer)
	if !own.areApart() {
		t.Errorf("P0.3: two lists of an answer share memory: %s", why)
	}
	if own.meet(placesOf(arguments...)) {
		t.Errorf("P0.3: an answer shares its argument's memory: %s", why)
	}
}

// spacious is a copy of t with marked room behind the end of each list.
func spacious(t api.Type) api.Type {
	t.Args, t.Names, t.Emb, t.Sets = withRoom(t.Args, api.Type{Kind: 77}), withRoom(t.Names, "room"), withRoom(t.Emb, true), withRoom(t.Sets, union(only(api.Type{Kind: 78})))
	for i, arg := range t.Args {
		t.Args[i] = spacious(arg)
	}
	for i, union := range t.Sets {
		t.Sets[i] = withRoom(union, tilde(api.Type{Kind: 79}))
		for j, term := range union {
			t.Sets[i][j].Type = spacious(term.Type)
		}
	}
	return t
}

func withRoom[T any](list []T, mark T) []T {
	room := make([]T, 0, len(list)+3)
	room = append(append(room, list...), mark, mark, mark)
	return room[:len(list)]
}

// ask calls all that the package has, and is all types that it answers.
func ask(a, b api.Type) []api.Type {
	types.May(a)
	types.Eq(a, b)
	types.Eq(b, a)
	types.Text(a)
	types.Integer(a)
	types.Numeric(a)
	return []api.Type{types.Clone(a), types.Func([]api.Type{a, b}, a), types.Func(nil, b), types.Func(a.Args, b), types.Basic(a.Name)}
}

func told(list []api.Type) []string {
	var texts []string
	for _, t := range list {
		texts = append(texts, whole(t))
	}
	return texts
}

// scribble writes over all that an answer's lists reach.
func scribble(t api.Type) {
	for _, arg := range t.Args {
		scribble(arg)
	}
	for _, union := range t.Sets {
		for _, term := range union {
			scribble(term.Type)
		}
		fill(union, only(api.Type{Kind: 55}))
	}
	fill(t.Args, api.Type{Kind: 55})
	fill(t.Names, "scribble")
	fill(t.Emb, true)
	fill(t.Sets, nil)
}

func fill[T any](list []T, with T) {
	list = list[:cap(list)]
	for i := range list {
		list[i] = with
	}
}

// arguments are types of all kinds, also such that may not be.
func arguments() []api.Type {
	all := []api.Type{{}, basic("x"), sets(nil), {Kind: 5, Names: []string{"a"}, Emb: []bool{true}}, slice(slice(of(api.KNil))),
		sets(union(only(text), tilde(integer), only(integer), only(text)), union(only(text)), union(only(integer), only(text)), union(only(text))),
		structOf(member{name: "b", t: sets(union(only(text), only(integer)))}, member{name: "a", t: function(void())}, member{name: "_", t: integer}, member{name: "_", t: integer})}
	for _, kind := range kinds() {
		all = append(all, plain(kind), slice(plain(kind)))
	}
	random := newMaker(113)
	for range 20 {
		all = append(all, random.aType(3))
	}
	return all
}

func TestMemory(t *testing.T) {
	all := arguments()
	for _, first := range all {
		for _, second := range all {
			a, b := spacious(first), spacious(second)
			beforeA, beforeB := wholeRoom(a), wholeRoom(b)
			answers := ask(a, b)
			want := told(answers)
			if wholeRoom(a) != beforeA || wholeRoom(b) != beforeB {
				t.Fatalf("P0.3: a call changed its argument: %s, %s", brief(first), brief(second))
			}
			if !placesOf(answers...).areApart() || placesOf(answers...).meet(placesOf(a, b)) {
				t.Fatalf("P0.3: answers share memory: %s, %s", brief(first), brief(second))
			}
			for _, answer := range answers {
				scribble(answer)
			}
			if wholeRoom(a) != beforeA || wholeRoom(b) != beforeB {
				t.Fatalf("P0.3: an answer shares its argument's memory: %s, %s", brief(first), brief(second))
			}
			if !slices.Equal(told(ask(a, b)), want) || !slices.Equal(told(ask(first, second)), want) {
				t.Fatalf("P0.3: an answer is kept, or hangs on room: %s, %s", brief(first), brief(second))
			}
		}
	}
}

// What a call tells does not hang on spare room, nor on what lists share.
func TestSpareRoomSaysNothing(t *testing.T) {
	for _, x := range arguments() {
		roomy := spacious(x)
		shared := mapOf(roomy, roomy)
		apart := mapOf(deepCopy(x), deepCopy(x))
		if types.May(roomy) != types.May(x) || types.Text(roomy) != types.Text(x) || types.Eq(roomy, x) != types.May(x) {
			t.Errorf("P0.3: room says something: %s", brief(x))
		}
		if types.May(shared) != types.May(apart) || types.Text(shared) != types.Text(apart) || types.Eq(shared, apart) != types.May(apart) || types.Eq(shared, shared) != types.May(apart) {
			t.Errorf("P0.3: a shared list says something: %s", brief(x))
		}
	}
}

// Two types with one list, of other lengths, and a list that is a part of another one.
func TestListsThatAreParts(t *testing.T) {
	args := []api.Type{integer, text, integer, text}
	terms := union(only(text), tilde(integer), only(integer), only(text))
	names := []string{"a", "b", "c", "d"}
	list := []api.Type{
		named("a.T", args[:2]...), named("a.T", args[2:]...), named("a.T", args...), named("a.T", args[1:3]...),
		sets(terms[:2], terms[1:]), sets(terms[1:], terms[:2], terms), sets(terms[:1], terms[3:]),
		{Kind: api.KStruct, Names: names[:2], Emb: make([]bool, 2), Args: args[:2]}, {Kind: api.KStruct, Names: names, Emb: make([]bool, 4), Args: args},
	}
	before := told(list)
	for i, a := range list {
		for j, b := range list {
			want := i == j || i < 2 && j < 2
			if a.Kind == api.KInterface && b.Kind == api.KInterface {
				want = modelEq(a, b)
			}
			if types.Eq(a, b) != want || types.Eq(deepCopy(a), b) != want || (types.Text(a) == types.Text(b)) != want {
				t.Errorf("P11.1: Eq(%s, %s) is not %v", brief(a), brief(b), want)
			}
			ask(a, b)
		}
	}
	if !slices.Equal(told(list), before) {
		t.Error("P0.3: a call changed a list")
	}
}
