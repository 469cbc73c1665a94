package env_test

import (
	"fmt"
	"math/rand"
	"slices"
	"strings"
	"testing"

	"sterling/api"
	"sterling/env"
	"sterling/types"
)

// The model goes over all of what is declared each time, and writes all out ahead of asking.

type model struct {
	decls  []api.Decl
	params []api.Var
}

func modelOf(decls []api.Decl, params []api.Var) model {
	return model{append(slices.Clone(decls), decl("error", errorType), decl("comparable", anything)), params}
}

func (m model) find(name string) (api.Decl, bool) {
	for _, d := range m.decls {
		if d.Name == name {
			return d, true
		}
	}
	return api.Decl{}, false
}

func parts(t api.Type) []api.Type {
	all := slices.Clone(t.Args)
	for _, union := range t.Sets {
		for _, term := range union {
			all = append(all, term.Type)
		}
	}
	return all
}

// allParts are t and all types in it.
func allParts(t *api.Type) []*api.Type {
	all := []*api.Type{t}
	for i := range t.Args {
		all = append(all, allParts(&t.Args[i])...)
	}
	for _, union := range t.Sets {
		for i := range union {
			all = append(all, allParts(&union[i].Type)...)
		}
	}
	return all
}

func deepCopy(t api.Type) api.Type {
	t.Args, t.Names, t.Emb, t.Sets = slices.Clone(t.Args), slices.Clone(t.Names), slices.Clone(t.Emb), slices.Clone(t.Sets)
	for i, arg := range t.Args {
		t.Args[i] = deepCopy(arg)
	}
	for i, union := range t.Sets {
		t.Sets[i] = slices.Clone(union)
		for j, term := range union {
			t.Sets[i][j].Type = deepCopy(term.Type)
		}
	}
	return t
}

// knows is of types that may be and types that may not.
func (m model) knows(t api.Type) bool {
	if !types.May(t) {
		return false
	}
	for _, part := range allParts(&t) {
		if d, ok := m.find(part.Name); part.Kind == api.KNamed && (!ok || len(d.Params) != len(part.Args)) {
			return false
		}
	}
	return true
}

func (m model) isRight() bool {
	seen := names("")
	for _, d := range m.decls {
		if slices.Contains(seen, d.Name) || d.Under.Kind == api.KParam {
			return false
		}
		seen = append(seen, d.Name)
		all := append(slices.Clone(d.Params), d.Under)
		seenMethods := names("")
		for _, method := range d.Methods {
			if slices.Contains(seenMethods, method.Name) || strings.Trim(method.Name, "abcdefghijklmnopqrstuvwxyzABCDEFGHIJKLMNOPQRSTUVWXYZ_0123456789") != "" || method.Name[0] <= '9' || method.Sig.Kind != api.KFunc {
				return false
			}
			seenMethods, all = append(seenMethods, method.Name), append(all, method.Sig)
		}
		for _, t := range all {
			if !m.knows(t) || !m.isOwn(d, t) {
				return false
			}
		}
	}
	seen = names("")
	for _, p := range m.params {
		if slices.Contains(seen, p.Name) || strings.Contains(p.Name, "#") || !m.knows(p.Type) {
			return false
		}
		seen = append(seen, p.Name)
	}
	return true
}

func (m model) isOwn(d api.Decl, t api.Type) bool {
	for _, part := range allParts(&t) {
		if part.Kind == api.KParam && !slices.Contains(ownNames(d), part.Name) {
			return false
		}
	}
	return true
}

func ownNames(d api.Decl) []string {
	var all []string
	for i := range d.Params {
		all = append(all, fmt.Sprintf("%s#%d", d.Name, i))
	}
	return all
}

func (m model) under(t api.Type) (api.Type, bool) {
	if !m.knows(t) {
		return api.Type{}, false
	}
	var way []string
	for t.Kind == api.KNamed {
		if slices.Contains(way, t.Name) {
			return api.Type{}, false
		}
		way = append(way, t.Name)
		d, _ := m.find(t.Name)
		put := deepCopy(d.Under)
		for _, part := range allParts(&put) {
			if i := slices.Index(ownNames(d), part.Name); part.Kind == api.KParam && i >= 0 {
				*part = deepCopy(t.Args[i])
			}
		}
		if t = put; !types.May(t) {
			return api.Type{}, false
		}
	}
	return t, true
}

func (m model) holds(t api.Type) bool {
	_, ok := m.under(t)
	return ok && m.ends(t, nil)
}

// ends goes each way to its end, or to where it is met again.
func (m model) ends(t api.Type, way []string) bool {
	switch t.Kind {
	case api.KNamed:
		d, _ := m.find(t.Name)
		if slices.Contains(way, t.Name) || !m.ends(d.Under, append(slices.Clone(way), t.Name)) {
			return false
		}
	case api.KArray, api.KStruct:
	default:
		return true
	}
	return !slices.ContainsFunc(t.Args, func(arg api.Type) bool { return !m.ends(arg, way) })
}

// maker makes types and declarations at random.
type maker struct {
	*rand.Rand
	own []string
}

func newMaker(seed int64) *maker { return &maker{Rand: rand.New(rand.NewSource(seed))} }

func pick[T any](s *maker, list ...T) T { return list[s.Intn(len(list))] }

// Of what is declared at random, by number of parameters.
var declaredNames = [][]string{{"p.A", "p.B", "q.A", "p~1.B"}, {"p.G", "q.G"}, {"p.H"}}

// aType is one that may be, mostly, and stands in others.
func (s *maker) aType(deep int) api.Type {
	if s.Intn(400) == 0 {
		return pick(s, named("p.X"), named("p.A", integer), named("p.G"), param("p.X#0"), slice(void()), void(), api.Type{}, named("error", text))
	}
	if deep == 0 {
		if len(s.own) > 0 && s.Intn(2) == 0 {
			return param(pick(s, s.own...))
		}
		return pick(s, integer, text, named("error"), named("comparable"), named(pick(s, declaredNames[0]...)), named(pick(s, declaredNames[0]...)))
	}
	inner := func() api.Type { return s.aType(s.Intn(deep)) }
	switch s.Intn(12) {
	case 0:
		return array(s.Intn(2), inner())
	case 1:
		return slice(inner())
	case 2:
		return pointer(inner())
	case 3:
		return mapOf(inner(), inner())
	case 4:
		return function(inner(), inner())
	case 5:
		return both(methods(member{name: "M", t: function(void(), inner())}), union(only(inner()), tilde(inner())))
	case 6, 7:
		return structOf(member{name: "a", t: inner()}, member{name: "b", t: inner()})
	case 8:
		return pick(s, embedding("A", named(pick(s, "p.A", "q.A"))), embedding("G", named("p.G", inner())), embedding("B", pointer(named("p~1.B"))))
	}
	return s.anInstance(deep)
}

func (s *maker) anInstance(deep int) api.Type {
	args := list()
	for range s.Intn(3) {
		args = append(args, s.aType(s.Intn(deep)))
	}
	return named(pick(s, declaredNames[len(args)]...), args...)
}

// aWorld is right, mostly.
func (s *maker) aWorld() ([]api.Decl, []api.Var) {
	var all []api.Decl
	for count, list := range declaredNames {
		for _, name := range list {
			s.own = ownNames(generic(name, count, integer))
			d := api.Decl{Name: name, Under: s.aType(1 + s.Intn(3))}
			if s.Intn(3) == 0 {
				d.Under = s.anInstance(1 + s.Intn(2))
			}
			for range count {
				d.Params = append(d.Params, s.aType(s.Intn(2)))
			}
			for _, m := range names("M", "N")[:s.Intn(3)] {
				d.Methods = append(d.Methods, api.Method{Name: m, Ptr: s.Intn(2) == 0, Sig: function(s.aType(s.Intn(2)), s.aType(s.Intn(2)))})
			}
			all = append(all, d)
		}
	}
	s.own = names("P", "Q", "p.G#0")
	var further []api.Var
	for _, name := range names("P", "Q")[:s.Intn(3)] {
		further = append(further, api.Var{Name: name, Type: s.aType(s.Intn(2))})
	}
	s.Shuffle(len(all), func(i, j int) { all[i], all[j] = all[j], all[i] })
	s.spoil(all, further)
	return all, further
}

// spoil makes now and then one thing wrong.
func (s *maker) spoil(all []api.Decl, further []api.Var) {
	d := &all[s.Intn(len(all))]
	switch s.Intn(20) {
	case 0:
		d.Name = pick(s, "", "error", "comparable", "p.Y", all[0].Name)
	case 1:
		d.Params = append(d.Params, anything)
	case 2:
		d.Methods = append(d.Methods, method(pick(s, "M", "_", "func", "", "0", "a.b", "Z"), pick(s, nullary, integer, nullary)))
	case 3:
		d.Under = pick(s, void(), null(), untyped("int"), param(d.Name+"#0"), api.Type{})
	case 4:
		if len(further) > 0 {
			further[0].Name = pick(s, "", "Q", "p.A", "P#0", "R")
		}
	}
}

func TestLikeModel(t *testing.T) {
	random := newMaker(131)
	var made, under, held [2]int
	for range 6000 {
		decls, params := random.aWorld()
		m := modelOf(decls, params)
		e, ok := env.New(decls, params)
		if ok != m.isRight() || ok != (e != nil) {
			t.Fatalf("P13.1: New(%s, %s) is %v", tellDecls(decls), tellParams(params), ok)
		}
		if !ok {
			made[0]++
			continue
		}
		made[1]++
		for range 20 {
			x := random.aType(random.Intn(4))
			want, isThere := m.under(x)
			if got, ok := e.Under(x); ok != isThere || whole(got) != whole(want) {
				t.Fatalf("P13.2: Under(%s) is %s, %v, not %s, in New(%s)", brief(x), brief(got), ok, brief(want), tellDecls(decls))
			}
			holds := m.holds(x)
			if got := e.Holds(x); got != holds {
				t.Fatalf("P13.2: Holds(%s) is %v, in New(%s)", brief(x), got, tellDecls(decls))
			}
			under[number(isThere)]++
			if isThere {
				held[number(holds)]++
			}
		}
	}
	if min(made[0], made[1], under[0], under[1], held[0], held[1]) < 500 {
		t.Errorf("only %v, %v, %v", made, under, held)
	}
}

func number(is bool) int {
	if is {
		return 1
	}
	return 0
}
