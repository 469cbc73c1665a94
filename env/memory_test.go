package env_test

import (
	"fmt"
	"slices"
	"testing"

	"sterling/api"
	"sterling/env"
)

// memory is where the elements of lists stand, those of their spare room too.
type memory map[any]int

func (m memory) addTypes(all ...api.Type) memory {
	for _, t := range all {
		addElements(m, t.Args)
		addElements(m, t.Names)
		addElements(m, t.Emb)
		addElements(m, t.Sets)
		for _, union := range t.Sets {
			addElements(m, union)
		}
		m.addTypes(parts(t)...)
	}
	return m
}

func (m memory) addDecls(all ...api.Decl) memory {
	for _, d := range all {
		addElements(m, d.Params)
		addElements(m, d.Methods)
		m.addTypes(d.Under).addTypes(d.Params...)
		for _, method := range d.Methods {
			m.addTypes(method.Sig)
		}
	}
	return m
}

func addElements[T any](seen memory, list []T) {
	list = list[:cap(list)]
	for i := range list {
		seen[&list[i]]++
	}
}

// isApart tells whether no two lists share an element.
func (m memory) isApart() bool {
	for _, count := range m {
		if count > 1 {
			return false
		}
	}
	return true
}

func (m memory) meets(n memory) bool {
	for element := range m {
		if n[element] > 0 {
			return true
		}
	}
	return false
}

// spacious is a copy of t with marked room behind the end of each list.
func spacious(t api.Type) api.Type {
	t.Args, t.Names, t.Emb, t.Sets = withRoom(t.Args, param("P")), withRoom(t.Names, "room"), withRoom(t.Emb, true), withRoom(t.Sets, union(only(param("Q"))))
	for i, arg := range t.Args {
		t.Args[i] = spacious(arg)
	}
	for i, union := range t.Sets {
		t.Sets[i] = withRoom(union, tilde(param("R")))
		for j, term := range union {
			t.Sets[i][j].Type = spacious(term.Type)
		}
	}
	return t
}

func withRoom[T any](list []T, mark T) []T {
	room := make([]T, 0, len(list)+3)
	room = append(append(room, list...), mark, mark, mark)
	return room[:len(list)]
}

func spaciousDecls(all []api.Decl) []api.Decl {
	all = withRoom(all, decl("room.D", integer))
	for i, d := range all {
		d.Params, d.Methods, d.Under = withRoom(d.Params, text), withRoom(d.Methods, method("Room", nullary)), spacious(d.Under)
		for j, c := range d.Params {
			d.Params[j] = spacious(c)
		}
		for j, m := range d.Methods {
			d.Methods[j].Sig = spacious(m.Sig)
		}
		all[i] = d
	}
	return all
}

func spaciousParams(all []api.Var) []api.Var {
	all = withRoom(all, further("Room", integer))
	for i, p := range all {
		all[i].Type = spacious(p.Type)
	}
	return all
}

// scribble writes over all that lists reach, their room too.
func scribble(all ...api.Type) {
	for _, t := range all {
		scribble(parts(t)...)
		for _, union := range t.Sets {
			fill(union, only(api.Type{Kind: 55}))
		}
		fill(t.Args, api.Type{Kind: 55})
		fill(t.Names, "scribble")
		fill(t.Emb, true)
		fill(t.Sets, nil)
	}
}

func scribbleDecl(d api.Decl) {
	scribble(d.Under)
	scribble(d.Params...)
	for _, m := range d.Methods {
		scribble(m.Sig)
	}
	fill(d.Params, api.Type{Kind: 55})
	fill(d.Methods, api.Method{Name: "scribble"})
}

func fill[T any](list []T, with T) {
	list = list[:cap(list)]
	for i := range list {
		list[i] = with
	}
}

// toldRoom is all that New is given, with the spare room of all lists.
func toldRoom(decls []api.Decl, params []api.Var) []string {
	var all []string
	for _, d := range decls[:cap(decls)] {
		all = append(all, declTelling(d, true))
	}
	for _, p := range params[:cap(params)] {
		all = append(all, p.Name+telling(p.Type, true))
	}
	return all
}

// answers are all that an Env tells of what is asked, and where it stands.
type answers struct {
	told   []string
	memory memory
	names  []string
	decls  []api.Decl
	types  []api.Type
}

func ask(e *env.Env, asked []api.Type) answers {
	a := answers{memory: memory{}, names: e.Names()}
	addElements(a.memory, a.names)
	a.told = append(a.told, a.names...)
	for _, name := range append(slices.Clone(a.names), "p.X", "") {
		d, ok := e.Decl(name)
		a.decls, a.told = append(a.decls, d), append(a.told, fmt.Sprint(tellDecl(d), ok))
	}
	for _, name := range names("P", "Q", "R", "p.G#0", "p.G#1", "p.H#0", "p.H#1", "q.G#0", "p.A#0") {
		c, ok := e.Constraint(name)
		a.types, a.told = append(a.types, c), append(a.told, fmt.Sprint(whole(c), ok))
	}
	for _, x := range asked {
		under, ok := e.Under(x)
		a.types, a.told = append(a.types, under), append(a.told, fmt.Sprint(whole(under), ok, e.Holds(x)))
	}
	a.memory.addDecls(a.decls...).addTypes(a.types...)
	return a
}

func (a answers) scribble() {
	fill(a.names, "scribble")
	scribble(a.types...)
	for _, d := range a.decls {
		scribbleDecl(d)
	}
}

// asking are types of all sorts that are asked for, with room behind their lists.
func asking(random *maker) []api.Type {
	var all []api.Type
	for _, kind := range kinds() {
		all = append(all, spacious(plain(kind)))
	}
	for _, name := range slices.Concat(declaredNames[0], names("error", "comparable", "p.X")) {
		all = append(all, spacious(named(name)))
	}
	for range 15 {
		all = append(all, spacious(random.aType(random.Intn(4))))
	}
	return all
}

func tellTypes(all []api.Type) []string {
	var told []string
	for _, t := range all {
		told = append(told, telling(t, true))
	}
	return told
}

// Arguments stay as they were; what is changed behind New, or in an answer, changes nothing; the same call gives the same.
func TestMemory(t *testing.T) {
	random := newMaker(132)
	for range 600 {
		plainDecls, plainParams := random.aWorld()
		fresh, ok := env.New(plainDecls, plainParams)
		decls, params := spaciousDecls(plainDecls), spaciousParams(plainParams)
		before, given := toldRoom(decls, params), memory{}.addDecls(decls...)
		for _, p := range params {
			given.addTypes(p.Type)
		}
		e, isMade := env.New(decls, params)
		if !slices.Equal(toldRoom(decls, params), before) || isMade != ok {
			t.Fatalf("P0.3: New changed its argument, or hangs on room: %s", tellDecls(decls))
		}
		asked := asking(random)
		given.addTypes(asked...)
		askedBefore := tellTypes(asked)
		want := ask(fresh, asked)
		first, second := ask(e, asked), ask(e, asked)
		if !slices.Equal(first.told, want.told) || !slices.Equal(second.told, want.told) {
			t.Fatalf("P0.5: the same is not told of %s", tellDecls(decls))
		}
		if !first.memory.isApart() || !second.memory.isApart() || first.memory.meets(second.memory) || first.memory.meets(given) {
			t.Fatalf("P0.3: answers share memory: %s", tellDecls(decls))
		}
		first.scribble()
		if !slices.Equal(tellTypes(asked), askedBefore) || !slices.Equal(toldRoom(decls, params), before) {
			t.Fatalf("P0.3: an answer shares its argument's memory: %s", tellDecls(decls))
		}
		for _, d := range decls[:cap(decls)] {
			scribbleDecl(d)
		}
		for _, p := range params[:cap(params)] {
			scribble(p.Type)
		}
		fill(decls, decl("scribble", integer))
		fill(params, further("scribble", integer))
		if third := ask(e, asked); !slices.Equal(third.told, want.told) {
			t.Fatalf("P0.3: what is given to New is kept, or what was answered: %s", tellDecls(plainDecls))
		}
		if second = ask(fresh, asked); !slices.Equal(second.told, want.told) {
			t.Fatalf("P0.3: one Env changes another: %s", tellDecls(plainDecls))
		}
	}
}

// What a nil Env answers is new, too.
func TestMemoryOfBareEnv(t *testing.T) {
	var none *env.Env
	for _, e := range []*env.Env{none, {}} {
		asked := asking(newMaker(133))
		first, second := ask(e, asked), ask(e, asked)
		if !first.memory.isApart() || first.memory.meets(second.memory) {
			t.Error("P0.3: answers share memory")
		}
		first.scribble()
		if third := ask(e, asked); !slices.Equal(third.told, second.told) {
			t.Error("P0.3: an answer is kept")
		}
	}
}

// Lists that stand in many places of what is given say no more than their copies.
func TestSharedLists(t *testing.T) {
	args := list(named("p.A"), slice(named("p.A")), pointer(named("p.B")))
	words, flags := names("a", "b", "c"), make([]bool, 3)
	shared := api.Type{Kind: api.KStruct, Names: words, Emb: flags, Args: args}
	part := api.Type{Kind: api.KStruct, Names: words[1:], Emb: flags[1:], Args: args[1:]}
	sigs := []api.Method{method("M", function(shared, args...)), method("N", function(part))}
	given := decls(
		api.Decl{Name: "p.A", Under: part, Methods: sigs},
		api.Decl{Name: "p.B", Params: nil, Under: shared, Methods: sigs[1:]},
		api.Decl{Name: "p.C", Params: args, Under: part, Methods: sigs[:1]},
		api.Decl{Name: "p.D", Params: args[:2], Under: named("p.C", args...)},
	)
	var copies []api.Decl
	for _, d := range given {
		d.Under = deepCopy(d.Under)
		d.Params, d.Methods = slices.Clone(d.Params), slices.Clone(d.Methods)
		copies = append(copies, d)
	}
	further := params(further("P", shared), further("Q", part))
	e, fresh := made(t, given, further), made(t, copies, further)
	asked := list(named("p.A"), named("p.C", args...), named("p.D", args[1:]...), shared, part, named("p.B"))
	got, want := ask(e, asked), ask(fresh, asked)
	if !slices.Equal(got.told, want.told) {
		t.Error("P13.1: shared lists tell other things")
	}
	if !got.memory.isApart() || got.memory.meets(memory{}.addDecls(given...).addTypes(asked...)) {
		t.Error("P0.3: lists of an answer share memory")
	}
}

// An empty list is as a nil one.
func TestEmptyLists(t *testing.T) {
	random := newMaker(134)
	for range 300 {
		given, further := random.aWorld()
		e, ok := env.New(given, further)
		var emptyDecls []api.Decl
		for _, d := range given {
			d.Params, d.Methods = emptied(d.Params), emptied(d.Methods)
			d.Under = withEmptyLists(d.Under)
			emptyDecls = append(emptyDecls, d)
		}
		empty, isMade := env.New(emptyDecls, emptied(further))
		if ok != isMade {
			t.Fatalf("P0.4: New(%s) with empty lists is %v", tellDecls(given), isMade)
		}
		for range 10 {
			x := random.aType(random.Intn(3))
			if got, want := ask(empty, list(withEmptyLists(x))), ask(e, list(x)); !slices.Equal(got.told, want.told) {
				t.Fatalf("P0.4: %s with empty lists", brief(x))
			}
		}
	}
}

func withEmptyLists(t api.Type) api.Type {
	t = deepCopy(t)
	for _, part := range allParts(&t) {
		part.Args, part.Names, part.Emb, part.Sets = emptied(part.Args), emptied(part.Names), emptied(part.Emb), emptied(part.Sets)
	}
	return t
}

func emptied[T any](list []T) []T {
	if list == nil {
		return []T{}
	}
	return list
}
