package subst_test

import (
	"slices"
	"testing"

	"sterling/api"
	"sterling/subst"
	"sterling/types"
)

// memory is where the elements of types' lists stand, those of their spare room too.
type memory struct {
	types map[*api.Type]int
	names map[*string]int
	flags map[*bool]int
	terms map[*api.Term]int
	sets  map[*[]api.Term]int
}

func memoryOf(all ...api.Type) memory {
	m := memory{map[*api.Type]int{}, map[*string]int{}, map[*bool]int{}, map[*api.Term]int{}, map[*[]api.Term]int{}}
	for _, t := range all {
		m.add(t)
	}
	return m
}

func (m memory) add(t api.Type) {
	addElements(m.types, t.Args)
	addElements(m.names, t.Names)
	addElements(m.flags, t.Emb)
	addElements(m.sets, t.Sets)
	for _, union := range t.Sets {
		addElements(m.terms, union)
	}
	for _, part := range parts(t) {
		m.add(part)
	}
}

func addElements[T any](seen map[*T]int, list []T) {
	list = list[:cap(list)]
	for i := range list {
		seen[&list[i]]++
	}
}

// isApart tells whether no two lists share an element.
func (m memory) isApart() bool {
	return isOnce(m.types) && isOnce(m.names) && isOnce(m.flags) && isOnce(m.terms) && isOnce(m.sets)
}

func isOnce[T any](seen map[*T]int) bool {
	for _, count := range seen {
		if count > 1 {
			return false
		}
	}
	return true
}

func (m memory) meets(n memory) bool {
	return doMeet(m.types, n.types) || doMeet(m.names, n.names) || doMeet(m.flags, n.flags) || doMeet(m.terms, n.terms) || doMeet(m.sets, n.sets)
}

func doMeet[T any](a, b map[*T]int) bool {
	for element := range a {
		if b[element] > 0 {
			return true
		}
	}
	return false
}

// spacious is a copy of t with marked room behind the end of each list.
func spacious(t api.Type) api.Type {
	t.Args, t.Names, t.Emb, t.Sets = withRoom(t.Args, param("P")), withRoom(t.Names, "room"), withRoom(t.Emb, true), withRoom(t.Sets, union(only(param("Q"))))
	for i, arg := range t.Args {
		t.Args[i] = spacious(arg)
	}
	for i, union := range t.Sets {
		t.Sets[i] = withRoom(union, tilde(param("R")))
		for j, term := range union {
			t.Sets[i][j].Type = spacious(term.Type)
		}
	}
	return t
}

func withRoom[T any](list []T, mark T) []T {
	room := make([]T, 0, len(list)+3)
	room = append(append(room, list...), mark, mark, mark)
	return room[:len(list)]
}

// scribble writes over all that an answer's lists reach, their room too.
func scribble(t api.Type) {
	for _, part := range parts(t) {
		scribble(part)
	}
	for _, union := range t.Sets {
		fill(union, only(api.Type{Kind: 55}))
	}
	fill(t.Args, api.Type{Kind: 55})
	fill(t.Names, "scribble")
	fill(t.Emb, true)
	fill(t.Sets, nil)
}

func fill[T any](list []T, with T) {
	list = list[:cap(list)]
	for i := range list {
		list[i] = with
	}
}

// call is one of Put, with all that it is given.
type call struct {
	t     api.Type
	names []string
	args  []api.Type
}

// told is all that a call is given, with the spare room of all lists.
func (c call) told() []string {
	all := append(slices.Clone(c.names[:cap(c.names)]), wholeRoom(c.t))
	for _, arg := range c.args[:cap(c.args)] {
		all = append(all, wholeRoom(arg))
	}
	return all
}

func (c call) roomy() call {
	c.t, c.names, c.args = spacious(c.t), withRoom(c.names, "P"), withRoom(c.args, text)
	for i, arg := range c.args {
		c.args[i] = spacious(arg)
	}
	return c
}

func (c call) memory() memory {
	m := memoryOf(append(slices.Clone(c.args), c.t)...)
	addElements(m.types, c.args)
	addElements(m.names, c.names)
	return m
}

func calls() []call {
	random := newMaker(124)
	var all []call
	for _, x := range append(fillers(), bare()...) {
		for _, arg := range append(fillers(), bare()...) {
			all = append(all, call{x, names("P", "Q"), list(arg, slice(arg))}, call{x, names("P"), list(arg)}, call{x, nil, nil})
		}
		all = append(all, call{x, names("P", "P", "R"), list(x, x, x)}, call{x, names("P"), list(of(api.KSlice))})
	}
	for _, place := range allPlaces() {
		for _, arg := range list(integer, mapOf(p, q), embedding("T", named("a.T", p)), sets(union(only(p), tilde(integer))), void()) {
			all = append(all, call{place.inside(p), names("P"), list(arg)}, call{mapOf(place.inside(p), place.inside(p)), names("P"), list(arg)}, call{api.Type{Kind: 5, Args: list(place.inside(p), arg)}, names("P"), list(arg)})
		}
	}
	for range 1000 {
		names, args := random.lists()
		all = append(all, call{random.aType(random.Intn(4)), names, args})
	}
	return all
}

// Arguments stay as they were, answers are new memory, and nothing is kept.
func TestMemory(t *testing.T) {
	for _, plain := range calls() {
		c := plain.roomy()
		before := c.told()
		put, free, size := subst.Put(c.t, c.names, c.args), subst.Free(c.t), subst.Size(c.t)
		again, freeAgain := subst.Put(c.t, c.names, c.args), subst.Free(c.t)
		want, wantFree := whole(put), slices.Clone(free)
		if !slices.Equal(c.told(), before) {
			t.Fatalf("P0.3: a call changed its argument: %s", brief(c.t))
		}
		answers := memoryOf(put, again)
		addElements(answers.names, free)
		addElements(answers.names, freeAgain)
		if !answers.isApart() || answers.meets(c.memory()) {
			t.Fatalf("P0.3: answers share memory: Put(%s, %q)", brief(c.t), c.names)
		}
		scribble(put)
		fill(free, "scribble")
		if !slices.Equal(c.told(), before) || whole(again) != want || !slices.Equal(freeAgain, wantFree) {
			t.Fatalf("P0.3: an answer shares its argument's memory: %s", brief(c.t))
		}
		for _, other := range []call{c, plain} {
			put, free := subst.Put(other.t, other.names, other.args), subst.Free(other.t)
			if whole(put) != want || !slices.Equal(free, wantFree) || subst.Size(other.t) != size {
				t.Fatalf("P0.3: an answer is kept, or hangs on room: Put(%s, %q)", brief(c.t), c.names)
			}
		}
	}
}

// Lists that stand in many places of what is given say no more than their copies.
func TestSharedLists(t *testing.T) {
	shared := list(p, q, slice(p))
	terms := union(only(p), tilde(q), only(p))
	unions := [][]api.Term{terms, terms[:2], terms[1:]}
	words, flags := names("a", "b", "c"), make([]bool, 3)
	for _, x := range list(
		named("a.T", named("a.T", shared...), named("b.T", shared[:2]...), named("c.T", shared[1:]...), of(api.KSlice, shared[2:]...)),
		mapOf(api.Type{Kind: api.KStruct, Names: words, Emb: flags, Args: shared}, api.Type{Kind: api.KStruct, Names: words[1:], Emb: flags[:2], Args: shared[1:]}),
		named("a.T", api.Type{Kind: api.KInterface, Sets: unions}, api.Type{Kind: api.KInterface, Sets: unions[1:]}),
		function(named("a.T", shared...), shared...),
	) {
		for _, args := range [][]api.Type{shared, shared[1:], x.Args, list(x, x, x), list(x.Args[0], x.Args[0]), shared[:1]} {
			c := call{x, names("P", "Q", "R"), args}
			before := c.told()
			want := modelPut(deepCopy(x), c.names, deepCopies(args))
			got := subst.Put(x, c.names, args)
			if whole(got) != whole(want) || !types.May(got) {
				t.Errorf("P12.1: shared lists: %s, not %s", brief(got), brief(want))
			}
			if own := memoryOf(got); !own.isApart() || own.meets(c.memory()) {
				t.Errorf("P0.3: lists of an answer share memory: %s", brief(got))
			}
			expectFree(t, "shared lists", x, modelFree(x)...)
			expectSize(t, "shared lists", x, modelSize(x))
			scribble(got)
			if !slices.Equal(c.told(), before) {
				t.Errorf("P0.3: an answer shares its argument's memory: %s", brief(x))
			}
		}
	}
}

func deepCopies(all []api.Type) []api.Type {
	var copies []api.Type
	for _, t := range all {
		copies = append(copies, deepCopy(t))
	}
	return copies
}

// An empty list is as a nil one.
func TestEmptyLists(t *testing.T) {
	for _, x := range fillers() {
		empty := deepCopy(x)
		for _, part := range allParts(&empty) {
			part.Args, part.Names, part.Emb, part.Sets = emptied(part.Args), emptied(part.Names), emptied(part.Emb), emptied(part.Sets)
		}
		expectPut(t, "empty lists", empty, names("P"), list(empty), subst.Put(x, names("P"), list(x)))
		expectFree(t, "empty lists", empty, subst.Free(x)...)
		expectSize(t, "empty lists", empty, subst.Size(x))
		if subst.Size(empty) == 0 || subst.Put(empty, nil, nil).Kind == 0 {
			t.Errorf("P0.4: %s with empty lists", brief(x))
		}
	}
}

func emptied[T any](list []T) []T {
	if list == nil {
		return []T{}
	}
	return list
}
