package lookup_test

import (
	"fmt"
	"slices"
	"strings"
	"testing"

	"sterling/api"
	"sterling/env"
	"sterling/lookup"
	"sterling/types"
)

// tellAll tells all that a type has, with what stands behind the end of its lists.
func tellAll(t api.Type) string {
	var b strings.Builder
	fmt.Fprintf(&b, "(%d %q %d %q %v", t.Kind, t.Name, t.Len, t.Names[:cap(t.Names)], t.Emb[:cap(t.Emb)])
	for _, arg := range t.Args[:cap(t.Args)] {
		b.WriteString(" " + tellAll(arg))
	}
	for _, union := range t.Sets[:cap(t.Sets)] {
		b.WriteString(" {")
		for _, term := range union[:cap(union)] {
			fmt.Fprint(&b, term.Tilde, tellAll(term.Type))
		}
		b.WriteString("}")
	}
	return b.String() + ")"
}

// spacious is a copy of t with marked room behind the end of each list.
func spacious(t api.Type) api.Type {
	t.Args, t.Names, t.Emb = withRoom(t.Args, param("Room")), withRoom(t.Names, "room"), withRoom(t.Emb, true)
	t.Sets = withRoom(t.Sets, []api.Term{{Type: param("Room")}})
	for i, arg := range t.Args {
		t.Args[i] = spacious(arg)
	}
	for i, union := range t.Sets {
		t.Sets[i] = withRoom(union, api.Term{Tilde: true, Type: param("Room")})
		for k, term := range union {
			t.Sets[i][k].Type = spacious(term.Type)
		}
	}
	return t
}

func withRoom[T any](list []T, mark T) []T {
	room := append(make([]T, 0, len(list)+2), list...)
	return append(room, mark, mark)[:len(list)]
}

// memory is where the elements of lists stand, those of their spare room too.
type memory map[any]int

func addList[T any](m memory, list []T) {
	list = list[:cap(list)]
	for i := range list {
		m[&list[i]]++
	}
}

func (m memory) add(all ...api.Type) {
	for _, t := range all {
		addList(m, t.Args)
		addList(m, t.Names)
		addList(m, t.Emb)
		addList(m, t.Sets)
		m.add(t.Args...)
		for _, union := range t.Sets {
			addList(m, union)
			for _, term := range union {
				m.add(term.Type)
			}
		}
	}
}

func (m memory) isApart() bool {
	for _, count := range m {
		if count > 1 {
			return false
		}
	}
	return true
}

func (m memory) meets(n memory) bool {
	for element := range m {
		if n[element] > 0 {
			return true
		}
	}
	return false
}

// scribble writes over all that lists reach, their room too.
func scribble(all ...api.Type) {
	for _, t := range all {
		scribble(t.Args...)
		for _, union := range t.Sets {
			for _, term := range union {
				scribble(term.Type)
			}
			fill(union, api.Term{Type: of(55)})
		}
		fill(t.Args, of(55))
		fill(t.Names, "scribble")
		fill(t.Emb, true)
		fill(t.Sets, nil)
	}
}

func fill[T any](list []T, with T) {
	list = list[:cap(list)]
	for i := range list {
		list[i] = with
	}
}

// answers are all that is answered of a type.
type answers struct {
	told  []string
	found []api.Field
	set   []string
}

func ask(e *env.Env, t api.Type, faces []api.Type) answers {
	var a answers
	for _, name := range strings.Fields("a b c M N Put A Box Error _ None") {
		f, ok := lookup.Find(e, t, name)
		a.found = append(a.found, f)
		a.told = append(a.told, fmt.Sprint(name, ok, f.Method, f.Ptr, f.Path, types.Text(f.Type)))
	}
	a.set = lookup.Set(e, t)
	a.told = append(a.told, fmt.Sprint(a.set))
	for _, face := range faces {
		a.told = append(a.told, fmt.Sprint(lookup.Implements(e, t, face), lookup.Missing(e, t, face), lookup.Implements(e, face, t), lookup.Missing(e, face, t)))
	}
	return a
}

func (a answers) memory() memory {
	m := memory{}
	for _, f := range a.found {
		addList(m, f.Path)
		m.add(f.Type)
	}
	addList(m, a.set)
	return m
}

func (a answers) scribble() {
	for _, f := range a.found {
		fill(f.Path, 55)
		scribble(f.Type)
	}
	fill(a.set, "scribble")
}

const memorable = `
	type A struct{a []int; b map[string]struct{x *A; B}}
	func (x A) M(a []int) struct{a int; b int} {}
	func (x *A) N(i interface{~[]int | string}) []A {}
	type B struct{c func([]int) A}
	type Face interface{M(a []int) struct{x int}; N([]A) []A; interface{error; Put([]int)}}
	type Box[P any] struct{a []P; embed *A; c map[string][]P}
	func (b *Box[P]) Put(p P, q []P) Box[[]P] {}
	func (b Box[P]) M() {}
	type In[P any] struct{b P; embed *Box[[]P]; embedToo Face}
	func further[P Face, Q interface{M() []int; Face}]() {}`

// Arguments stay as they were, and what is changed in an answer changes no later one, nor an argument; the same call gives
// the same.
func TestMemory(t *testing.T) {
	w := declared(t, memorable)
	var asked []api.Type
	for _, src := range strings.Fields("A *A B Face Box[[]int] *Box[A] In[int] *In[[]int] P Q error any None []A struct{a+[]int;b+struct{a+[]int};A} *struct{*A;c+func([]int)[]int} struct{embed+Box[[]int];embedToo+Face}" +
		" interface{M([]int)[]int;N();Face} interface{Put([]int);error} interface{M([]int)} interface{N(interface{~[]int|string})[]A;M([]int)struct{a+int;b+int}} Box[Box[[]int]] In[struct{a+[]int}]") {
		asked = append(asked, spacious(w.says(t, src)))
	}
	for _, x := range asked {
		before := tellAll(x)
		first := ask(w.Env, x, asked)
		second := ask(w.Env, x, asked)
		if tellAll(x) != before {
			t.Fatalf("P0.3: an argument is changed: %s", before)
		}
		given := memory{}
		given.add(x)
		if !slices.Equal(first.told, second.told) {
			t.Errorf("P0.5: the same call tells %q and %q", first.told, second.told)
		}
		if a, b := first.memory(), second.memory(); !a.isApart() || a.meets(b) || a.meets(given) {
			t.Errorf("P0.3: answers share memory: %s", before)
		}
		first.scribble()
		if tellAll(x) != before {
			t.Errorf("P0.3: an answer shares memory with its argument: %s", before)
		}
		if third := ask(w.Env, x, asked); !slices.Equal(third.told, second.told) {
			t.Errorf("P0.3: an answer is kept: %q, then %q", second.told, third.told)
		}
	}
}

// What is handed in is not kept.
func TestArgumentsAreNotKept(t *testing.T) {
	w := declared(t, memorable)
	for _, src := range strings.Fields("struct{a+[]int;b+struct{a+[]int};A} Box[[]int] *In[[]int] interface{M([]int)[]int;N();error}") {
		x, same := w.says(t, src), w.says(t, src)
		want := ask(w.Env, same, nil)
		got := ask(w.Env, x, nil)
		scribble(x)
		if again := ask(w.Env, same, nil); !slices.Equal(again.told, want.told) {
			t.Errorf("P0.3: an argument is kept: %s", src)
		}
		if fmt.Sprint(got.found, got.set) != fmt.Sprint(want.found, want.set) {
			t.Errorf("P0.3: an answer hangs on its argument: %s", src)
		}
	}
}

// emptied has empty lists for nil ones.
func emptied(t api.Type) api.Type {
	t.Args, t.Names, t.Emb, t.Sets = append([]api.Type{}, t.Args...), append([]string{}, t.Names...), append([]bool{}, t.Emb...), append([][]api.Term{}, t.Sets...)
	for i, arg := range t.Args {
		t.Args[i] = emptied(arg)
	}
	return t
}

func TestEmptyLists(t *testing.T) {
	w := declared(t, memorable)
	for _, src := range strings.Fields("A *A any int []int Box[int] P struct{} struct{A} interface{M();error}") {
		x := w.says(t, src)
		if got, want := ask(w.Env, emptied(x), []api.Type{x}), ask(w.Env, x, []api.Type{emptied(x)}); !slices.Equal(got.told, want.told) {
			t.Errorf("P0.4: %s with empty lists tells %q, not %q", src, got.told, want.told)
		}
	}
}

// A nil Env, and one that New did not make, know error and comparable alone.
func TestBareEnv(t *testing.T) {
	var none *env.Env
	for _, e := range []*env.Env{none, {}} {
		w := world{}
		w.Env = e
		ofError := "Error: method [0] func() string; error: field [0] error; A: nothing"
		w.expectFind(t, map[string]string{"error": "Error: method [] func() string", "comparable": "Error: nothing", "any": "Error: nothing", "*error": "Error: nothing", "interface{M(); error}": "Error: method [] func() string; M: method [] func()",
			"struct{a int; b []string}": "a: field [0] int; b: field [1] []string; _: nothing", "*struct{a int}": "a: field [0] int", "struct{error}": ofError, "*struct{error; A int}": "A: field [1] int; Error: method [0] func() string", "A": "a: nothing; M: nothing", "struct{a A}": "a: nothing", "struct{A}": "A: nothing"})
		w.expectSet(t, map[string]string{"error": "Error", "*error": "", "comparable": "", "any": "", "struct{error}": "Error", "*struct{error}": "Error", "int": "", "A": "", "*A": "", "interface{N(); M(); error}": "Error M N"})
		w.expectImplements(t, true, "error", "error", "struct{error}", "*struct{error}", "interface{error; M()}")
		w.expectImplements(t, false, "error", "int", "any", "A", "*error", "comparable", "struct{*error}")
		w.expectImplements(t, true, "any", "int", "error", "comparable", "func()", "*error")
		w.expectImplements(t, false, "any", "A", "*A", "[]A")
		w.expectImplements(t, false, "comparable", "int", "error", "comparable")
		w.expectImplements(t, false, "A", "int", "A")
		w.expectMissing(t, "Error", "error", "int", "any", "A", "comparable")
		w.expectMissing(t, "", "comparable", "int", "A")
		w.expectMissing(t, "", "A", "int", "A")
		if tell(e, param("P"), "M") != "nothing" || len(lookup.Set(e, param("P"))) > 0 || lookup.Missing(e, integer, param("P")) != "" || lookup.Implements(e, integer, param("P")) || !lookup.Implements(e, param("P"), anything) {
			t.Error("P15: of a type parameter and a bare Env")
		}
	}
}

// selfHolding stand in themselves.
func selfHolding() []api.Type {
	one := make([]api.Type, 1)
	one[0] = of(api.KPointer, one...)
	two := make([]api.Type, 2)
	two[0], two[1] = of(api.KStruct, two[:1]...), of(api.KStruct, two...)
	two[0].Names, two[0].Emb = []string{"M"}, []bool{true}
	two[1].Names, two[1].Emb = []string{"M", "N"}, []bool{true, false}
	all := make([]api.Term, 2)
	for i := range all {
		all[i].Type = api.Type{Kind: api.KInterface, Sets: [][]api.Term{all, all[:1]}}
	}
	many := slices.Repeat([]api.Type{integer}, 3001)
	many[3000] = api.Type{Kind: api.KFunc, Len: 3000, Args: many}
	return []api.Type{one[0], two[0], two[1], all[0].Type, many[3000]}
}

func TestTypesThatMayNotBe(t *testing.T) {
	deep := named("p.A")
	for range 1 << 16 {
		deep = pointer(deep)
	}
	wrongField, twice, noEmb := structOf(field("M", integer)), structOf(field("M", integer), field("M", integer)), structOf(field("M", integer))
	wrongField.Emb[0], noEmb.Emb = true, nil
	unordered := api.Type{Kind: api.KInterface, Names: []string{"N", "M"}, Args: []api.Type{nullary, nullary}}
	refused := append(selfHolding(), api.Type{}, of(-1), of(14), of(1<<40), deep, basic("rune"), named(""), named("A"), named("p.None"), pointer(named("p.None")), param(""), array(-1, named("p.A")), slice(of(api.KNil)), of(api.KPointer), pointer(void), named("p.A", integer), named("p.Box"), pointer(named("p.Box")),
		wrongField, twice, noEmb, unordered, structOf(field("", integer)), interfaceOf("M", integer), interfaceOf("_", nullary), interfaceOf("", nullary), api.Type{Kind: api.KInterface, Names: []string{"M"}}, api.Type{Kind: api.KInterface, Sets: [][]api.Term{{}}}, api.Type{Kind: api.KNamed, Name: "p.A", Len: 1},
		named("error", integer), pointer(pointer(named("p.None"))), structOf(embedded(named("p.None"))), structOf(embedded(pointer(named("p.Box")))), structOf(field("M", named("p.None"))), interfaceOf("M", function(named("p.None"))))
	w := declared(t, memorable)
	for i, x := range refused {
		for _, e := range []*env.Env{w.Env, nil} {
			for _, name := range []string{"M", "N", "a", "x", "", "_", "None", "Box", "Error"} {
				if got := tell(e, x, name); got != "nothing" {
					t.Errorf("P15.1: Find of what may not be, number %d, is %s", i, got)
				}
			}
			if len(lookup.Set(e, x)) > 0 || lookup.Implements(e, x, anything) || lookup.Implements(e, integer, x) || lookup.Implements(e, x, x) || lookup.Implements(e, named("error"), x) {
				t.Errorf("P15.2: something is told of what may not be, number %d", i)
			}
			if lookup.Missing(e, x, anything) != "" || lookup.Missing(e, x, named("error")) != "Error" || lookup.Missing(e, integer, x) != "" || lookup.Missing(e, x, x) != "" {
				t.Errorf("P15.2: Missing of what may not be, number %d", i)
			}
		}
	}
}

// Types that may be, and that have nothing.
func TestTypesWithoutMembers(t *testing.T) {
	w := declared(t, memorable)
	for _, x := range []api.Type{of(api.KNil), void, {Kind: api.KUntyped, Name: "int"}, {Kind: api.KUntyped, Name: "string"}, integer, slice(named("p.A")), pointer(integer), nullary, param("None")} {
		for _, e := range []*env.Env{w.Env, nil} {
			if e == nil && x.Kind == api.KSlice {
				continue
			}
			if tell(e, x, "M") != "nothing" || tell(e, x, "int") != "nothing" || len(lookup.Set(e, x)) > 0 {
				t.Errorf("P15: Kind %d has something", x.Kind)
			}
			if !lookup.Implements(e, x, anything) || lookup.Implements(e, x, named("error")) || lookup.Missing(e, x, named("error")) != "Error" || lookup.Missing(e, x, anything) != "" || lookup.Implements(e, anything, x) {
				t.Errorf("P15.2: Implements of Kind %d", x.Kind)
			}
		}
	}
}

// Any bytes may be asked for.
func TestNamesOfAnyBytes(t *testing.T) {
	w := declared(t, memorable)
	for _, name := range []string{"", "_", "\x00", "\xff", "a\x00", " a", "a ", "é", "p.A", "[0]", strings.Repeat("a", 1<<20), "func", "A.a"} {
		for _, src := range strings.Fields("A *A Face Box[int] In[int] P error any int None") {
			if got := tell(w.Env, w.says(t, src), name); got != "nothing" {
				t.Errorf("P15.1: Find(%s, %.20q) is %s", src, name, got)
			}
		}
	}
}
