package typeset_test

import (
	"fmt"
	"slices"
	"strings"
	"testing"

	"sterling/api"
	"sterling/env"
	"sterling/typeset"
)

// tellAll tells all that a type has, with what stands behind the end of its lists.
func tellAll(t api.Type) string {
	var b strings.Builder
	fmt.Fprintf(&b, "(%d %q %d %q %v", t.Kind, t.Name, t.Len, t.Names[:cap(t.Names)], t.Emb[:cap(t.Emb)])
	for _, arg := range t.Args[:cap(t.Args)] {
		b.WriteString(" " + tellAll(arg))
	}
	for _, union := range t.Sets[:cap(t.Sets)] {
		b.WriteString(" {")
		for _, term := range union[:cap(union)] {
			fmt.Fprint(&b, term.Tilde, tellAll(term.Type))
		}
		b.WriteString("}")
	}
	return b.String() + ")"
}

// spacious is a copy of t with marked room behind the end of each list.
func spacious(t api.Type) api.Type {
	t.Args, t.Names, t.Emb = withRoom(t.Args, param("Room")), withRoom(t.Names, "room"), withRoom(t.Emb, true)
	t.Sets = withRoom(t.Sets, terms(only(param("Room"))))
	for i, arg := range t.Args {
		t.Args[i] = spacious(arg)
	}
	for i, union := range t.Sets {
		t.Sets[i] = withRoom(union, tilde(param("Room")))
		for k, term := range union {
			t.Sets[i][k].Type = spacious(term.Type)
		}
	}
	return t
}

func withRoom[T any](list []T, mark T) []T {
	room := append(make([]T, 0, len(list)+2), list...)
	return append(room, mark, mark)[:len(list)]
}

// memory is where the elements of lists stand, those of their spare room too.
type memory map[any]int

func addList[T any](m memory, list []T) {
	list = list[:cap(list)]
	for i := range list {
		m[&list[i]]++
	}
}

func (m memory) add(all ...api.Type) {
	for _, t := range all {
		addList(m, t.Args)
		addList(m, t.Names)
		addList(m, t.Emb)
		addList(m, t.Sets)
		m.add(t.Args...)
		for _, union := range t.Sets {
			addList(m, union)
			for _, term := range union {
				m.add(term.Type)
			}
		}
	}
}

func (m memory) isApart() bool {
	for _, count := range m {
		if count > 1 {
			return false
		}
	}
	return true
}

func (m memory) meets(n memory) bool {
	for element := range m {
		if n[element] > 0 {
			return true
		}
	}
	return false
}

// scribble writes over all that lists reach, their room too.
func scribble(all ...api.Type) {
	for _, t := range all {
		scribble(t.Args...)
		for _, union := range t.Sets {
			for _, term := range union {
				scribble(term.Type)
			}
			fill(union, only(of(55)))
		}
		fill(t.Args, of(55))
		fill(t.Names, "scribble")
		fill(t.Emb, true)
		fill(t.Sets, nil)
	}
}

func fill[T any](list []T, with T) {
	list = list[:cap(list)]
	for i := range list {
		list[i] = with
	}
}

// answers are all that is answered of a type.
type answers struct {
	told  []string
	terms []api.Term
	names []string
	sigs  []api.Type
	core  api.Type
}

func ask(e *env.Env, t api.Type, constraints []api.Type) answers {
	var a answers
	var isAll, isSet, areMethods, isCore bool
	a.terms, isAll, isSet = typeset.Terms(e, t)
	a.names, a.sigs, areMethods = typeset.Methods(e, t)
	a.core, isCore = typeset.Core(e, t)
	a.told = []string{tellTerms(e, t), tellMethods(e, t), tellCore(e, t), fmt.Sprint(isAll, isSet, areMethods, isCore, typeset.Constraint(e, t), typeset.Comparable(e, t))}
	for _, c := range constraints {
		a.told = append(a.told, fmt.Sprint(typeset.Satisfies(e, t, c), typeset.Satisfies(e, c, t)))
	}
	return a
}

func (a answers) memory() memory {
	m := memory{}
	addList(m, a.terms)
	for _, term := range a.terms {
		m.add(term.Type)
	}
	addList(m, a.names)
	addList(m, a.sigs)
	m.add(a.sigs...)
	m.add(a.core)
	return m
}

func (a answers) scribble() {
	for _, term := range a.terms {
		scribble(term.Type)
	}
	fill(a.terms, tilde(of(55)))
	fill(a.names, "scribble")
	scribble(a.sigs...)
	fill(a.sigs, of(55))
	scribble(a.core)
}

const memorable = `
	type My int
	func (m My) M(a []int) {}
	type List []My
	type Num interface{~int | []string | List | map[int]struct{a My; b *List}}
	type Deep interface{Num; M(a []int); interface{~[]My | ~int | List}; N(func(int) []My) struct{a []int}}
	type Box[A any] struct{a A; b []A}
	type Of[A any] interface{~[]A | Box[A]; M(A, []A) Box[A]}
	type Self interface{Self; []int | []My}
	func further[P Deep, Q Of[P], R Box[int], S ~Box[My], T Self, U []My | List]() {}`

// Arguments stay as they were, and what is changed in an answer changes no later one, nor an argument; the same call gives
// the same.
func TestMemory(t *testing.T) {
	w := declared(t, memorable)
	var asked []api.Type
	for _, src := range words("Num Deep Of[[]int] Of[List] P Q R S T U My *My Box[List] Box[Box[[]int]] []List error comparable any Self None P[int]" +
		" interface{M([]int);~[]int|Box[List]|[]My;Num} interface{Num;interface{Deep};M([]int)} struct{My} interface{Of[[]int]} interface{[]My|[]My;~[]My} Of__0 struct{a+[]int;My}") {
		asked = append(asked, spacious(w.says(t, src)))
	}
	for _, x := range asked {
		before := tellAll(x)
		first := ask(w.Env, x, asked)
		second := ask(w.Env, x, asked)
		if tellAll(x) != before {
			t.Fatalf("P0.3: an argument is changed: %s", before)
		}
		given := memory{}
		given.add(x)
		if !slices.Equal(first.told, second.told) {
			t.Errorf("P0.5: the same call tells %q and %q", first.told, second.told)
		}
		if a, b := first.memory(), second.memory(); !a.isApart() || a.meets(b) || a.meets(given) {
			t.Errorf("P0.3: answers share memory: %s", before)
		}
		first.scribble()
		if tellAll(x) != before {
			t.Errorf("P0.3: an answer shares memory with its argument: %s", before)
		}
		if third := ask(w.Env, x, asked); !slices.Equal(third.told, second.told) {
			t.Errorf("P0.3: an answer is kept: %q, then %q", second.told, third.told)
		}
	}
}

// What is handed in is not kept.
func TestArgumentsAreNotKept(t *testing.T) {
	w := declared(t, memorable)
	for _, src := range words("interface{[]int|[]My;M([]int)} interface{Num;~[]int|List} Of[[]int]") {
		x, same := w.says(t, src), w.says(t, src)
		want := ask(w.Env, same, nil)
		got := ask(w.Env, x, nil)
		scribble(x)
		if again := ask(w.Env, same, nil); !slices.Equal(again.told, want.told) {
			t.Errorf("P0.3: an argument is kept: %s", src)
		}
		if fmt.Sprint(got.terms, got.sigs, got.core) != fmt.Sprint(want.terms, want.sigs, want.core) {
			t.Errorf("P0.3: an answer hangs on its argument: %s", src)
		}
	}
}

// Lists that stand in several places tell no more than their copies; empty ones are as nil ones.
func TestSharedAndEmptyLists(t *testing.T) {
	w := declared(t, memorable)
	union := terms(only(named("p.List")), tilde(slice(integer)), only(text))
	shared := sets(union, union[:2], union[:1])
	copied := sets(slices.Clone(union), slices.Clone(union[:2]), slices.Clone(union[:1]))
	if got, want := ask(w.Env, shared, nil), ask(w.Env, copied, nil); !slices.Equal(got.told, want.told) || !got.memory().isApart() {
		t.Errorf("P0.3: shared lists tell %q, not %q", got.told, want.told)
	}
	for _, src := range words("Num any interface{int} int []int My Box[int] P struct{}") {
		x := w.says(t, src)
		if got, want := ask(w.Env, emptied(x), []api.Type{x}), ask(w.Env, x, []api.Type{x}); !slices.Equal(got.told, want.told) {
			t.Errorf("P0.4: %s with empty lists tells %q, not %q", src, got.told, want.told)
		}
	}
}

// emptied has empty lists for nil ones.
func emptied(t api.Type) api.Type {
	t.Args, t.Names, t.Emb, t.Sets = append([]api.Type{}, t.Args...), append([]string{}, t.Names...), append([]bool{}, t.Emb...), append([][]api.Term{}, t.Sets...)
	for i, arg := range t.Args {
		t.Args[i] = emptied(arg)
	}
	return t
}

// A nil Env, and one that New did not make, know error and comparable alone.
func TestBareEnv(t *testing.T) {
	var none *env.Env
	for _, w := range []world{{Env: none}, {Env: &env.Env{}}} {
		w.expectTerms(t, map[string]string{"error": "all", "comparable": "all", "any": "all", "interface{error; int | ~string}": "int | ~string", "interface{comparable; []int}": "[]int",
			"interface{int; string}": "", "int": "no set", "My": "no set", "interface{My}": "no set", "[]error": "no set"})
		w.expectMethods(t, map[string]string{"error": "Error() string", "comparable": "", "any": "", "interface{M(); error}": "Error() string; M()", "int": "no set", "My": "no set"})
		w.expectConstraint(t, true, "comparable", "interface{comparable}", "interface{int}")
		w.expectConstraint(t, false, "error", "any", "interface{error}", "int", "My", "interface{My}")
		w.expectComparable(t, true, "int", "error", "any", "[2]error", "struct{a int}", "*[]int")
		w.expectComparable(t, false, "comparable", "[]int", "func()", "My", "struct{a My}")
		w.expectSatisfies(t, true, "error", "error", "interface{Error() string; M()}", "struct{error}")
		w.expectSatisfies(t, true, "any", "int", "error", "func()", "[]int")
		w.expectSatisfies(t, true, "comparable", "int", "error", "any")
		w.expectSatisfies(t, true, "interface{~int | string}", "int", "string")
		w.expectSatisfies(t, false, "error", "int", "any", "My", "*error")
		w.expectSatisfies(t, false, "My", "int", "My", "any")
		w.expectSatisfies(t, false, "comparable", "[]int", "comparable", "func()")
		w.expectCore(t, map[string]string{"int": "int", "error": "interface{Error() string}", "comparable": "interface{}", "[]error": "[]error", "My": "none", "[]My": "none"})
		if tellTerms(w.Env, param("P")) != "no set" || tellCore(w.Env, param("P")) != "none" || typeset.Comparable(w.Env, param("P")) || typeset.Constraint(w.Env, param("P")) {
			t.Error("P14: of a type parameter and a bare Env")
		}
	}
}

// selfHolding stand in themselves.
func selfHolding() []api.Type {
	one := make([]api.Type, 1)
	one[0] = of(api.KSlice, one...)
	two := make([]api.Type, 2)
	two[0], two[1] = of(api.KArray, two[:1]...), of(api.KMap, two...)
	all := make([]api.Term, 2)
	for i := range all {
		all[i].Type = sets(all, all[:1])
	}
	many := slices.Repeat([]api.Type{integer}, 3001)
	many[3000] = api.Type{Kind: api.KFunc, Len: 3000, Args: many}
	return []api.Type{one[0], two[0], two[1], all[0].Type, many[3000]}
}

func TestTypesThatMayNotBe(t *testing.T) {
	deep := integer
	for range 1 << 16 {
		deep = pointer(deep)
	}
	refused := append(selfHolding(), api.Type{}, of(-1), of(14), of(1<<40), deep, basic("rune"), named(""), named("T"), named("p.None"), param(""), array(-1, integer), array(1<<20+1, integer), slice(null),
		sets(nil), sets(terms(only(integer)), nil), sets(terms(only(void))), sets(terms(tilde(null), only(integer))), sets(slices.Repeat(terms(only(integer)), 1<<20)),
		api.Type{Kind: api.KInterface, Names: []string{"M"}}, interfaceOf("M", integer), interfaceOf("_", function(void)), interfaceOf("", function(void)),
		api.Type{Kind: api.KInterface, Name: "x"}, api.Type{Kind: api.KInterface, Len: 1}, api.Type{Kind: api.KParam, Name: "P", Len: 1}, api.Type{Kind: api.KParam, Name: "P", Args: []api.Type{integer}},
		api.Type{Kind: api.KNamed, Name: "comparable", Len: 1}, named("comparable", integer), named("error", integer), named("p.Num", integer), named("p.Of"), api.Type{Kind: api.KUntyped}, structOf(true, "a", integer))
	w := declared(t, memorable)
	for _, x := range refused {
		for _, e := range []*env.Env{w.Env, nil} {
			if tellTerms(e, x) != "no set" || tellMethods(e, x) != "no set" || tellCore(e, x) != "none" || typeset.Constraint(e, x) || typeset.Comparable(e, x) {
				t.Errorf("P14: something is told of what may not be, Kind %d, Name %q", x.Kind, x.Name)
			}
			for _, other := range []api.Type{anything, asking, integer, named("error"), x} {
				if typeset.Satisfies(e, x, other) || typeset.Satisfies(e, other, x) {
					t.Errorf("P14.2: what may not be satisfies, or is satisfied, Kind %d, Name %q", x.Kind, x.Name)
				}
			}
		}
	}
}
