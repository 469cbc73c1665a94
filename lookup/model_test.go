package lookup_test

import (
	"fmt"
	"maps"
	"math/rand"
	"slices"
	"testing"

	"sterling/api"
	"sterling/env"
	"sterling/lookup"
	"sterling/subst"
	"sterling/types"
	"sterling/typeset"
)

// The model goes each road through embedded fields, as deep as there are declared types and more.
type model struct{ *env.Env }

const modelDepth = 7

// member is a field or a method that a road leads to.
type member struct {
	depth int
	api.Field
	isInSet bool
}

func (m model) members(t api.Type) map[string][]member {
	all := map[string][]member{}
	if _, ok := m.Under(t); ok {
		m.goOver(t, false, nil, 0, all)
	}
	return all
}

func (m model) goOver(t api.Type, isPointedAt bool, path []int, depth int, all map[string][]member) {
	under, _ := m.Under(t)
	if t.Kind == api.KPointer {
		t, isPointedAt = t.Args[0], true
		under, _ = m.Under(t)
		if under.Kind == api.KInterface || under.Kind == api.KParam {
			return
		}
	}
	if under.Kind == api.KPointer || depth > modelDepth {
		return
	}
	add := func(name string, x member) {
		x.depth = depth
		x.Path = append(slices.Clone(path), x.Path...)
		all[name] = append(all[name], x)
	}
	if under.Kind == api.KInterface || under.Kind == api.KParam {
		names, sigs, _ := typeset.Methods(m.Env, t)
		for i, name := range names {
			add(name, member{Field: api.Field{Method: true, Type: sigs[i]}, isInSet: true})
		}
		return
	}
	if d, ok := m.Decl(t.Name); ok && t.Kind == api.KNamed {
		var params []string
		for i := range d.Params {
			params = append(params, fmt.Sprintf("%s#%d", d.Name, i))
		}
		for _, x := range d.Methods {
			add(x.Name, member{Field: api.Field{Method: true, Ptr: x.Ptr, Type: subst.Put(x.Sig, params, t.Args)}, isInSet: isPointedAt || !x.Ptr})
		}
	}
	if under.Kind != api.KStruct {
		return
	}
	for i, name := range under.Names {
		add(name, member{Field: api.Field{Path: []int{i}, Type: under.Args[i]}})
		if under.Emb[i] {
			m.goOver(under.Args[i], isPointedAt, append(slices.Clone(path), i), depth+1, all)
		}
	}
}

// one is the only member at the least depth.
func one(list []member) (member, bool) {
	if len(list) == 0 {
		return member{}, false
	}
	least := slices.MinFunc(list, func(a, b member) int { return a.depth - b.depth }).depth
	list = slices.DeleteFunc(slices.Clone(list), func(x member) bool { return x.depth > least })
	return list[0], len(list) == 1
}

// maker makes declarations at random.
type maker struct{ *rand.Rand }

func pick[T any](r maker, list ...T) T { return list[r.Intn(len(list))] }

const structCount = 5

// anEmbedded is a declared type, or a pointer to one: structs of any number by pointers, those of higher ones by value.
func (r maker) anEmbedded(number int, arg api.Type) api.Type {
	args := []api.Type{pick(r, arg, arg, slice(arg), integer, pointer(arg))}
	name, isGeneric := pick(r, "p.D", "p.F0", "p.F1", "p.G", "p.At", "error"), false
	other := r.Intn(structCount)
	if r.Intn(4) > 0 {
		name, isGeneric = fmt.Sprintf("p.S%d", other), other%2 > 0
	}
	isGeneric = isGeneric || name == "p.F1" || name == "p.G"
	if !isGeneric {
		args = nil
	}
	if x := named(name, args...); r.Intn(2) == 0 && (name[2] != 'S' || other > number) {
		return x
	}
	return pointer(named(name, args...))
}

func (r maker) aStruct(number int, arg api.Type) api.Type {
	var fields []api.Var
	names := map[string]bool{}
	add := func(f api.Var) {
		name := f.Name
		if name == "" {
			name = nameOf(f.Type)
		}
		if !names[name] || name == "_" {
			names[name] = true
			fields = append(fields, f)
		}
	}
	for range r.Intn(4) {
		add(embedded(r.anEmbedded(number, arg)))
	}
	for range r.Intn(3) {
		add(field(pick(r, "a", "b", "M", "N", "_", "D", "S1"), pick(r, arg, integer, slice(arg))))
	}
	r.Shuffle(len(fields), func(i, k int) { fields[i], fields[k] = fields[k], fields[i] })
	return structOf(fields...)
}

func (r maker) methods(arg api.Type) []api.Method {
	var all []api.Method
	for _, name := range []string{"M", "N", "O", "a"} {
		if r.Intn(4) == 0 {
			all = append(all, method(name, r.Intn(2) == 0, r.sig(arg)))
		}
	}
	return all
}

func (r maker) sig(arg api.Type) api.Type {
	return pick(r, nullary, nullary, nullary, function(integer), function(void, arg))
}

func (r maker) face(arg api.Type) api.Type {
	t := api.Type{Kind: api.KInterface}
	for _, name := range []string{"M", "N", "O"} {
		if r.Intn(3) == 0 {
			t.Names, t.Args = append(t.Names, name), append(t.Args, r.sig(arg))
		}
	}
	if r.Intn(8) == 0 {
		t.Sets = append(t.Sets, []api.Term{{Type: pick(r, integer, named("p.F0"), named("error"))}})
	}
	return t
}

func (r maker) aWorld(t *testing.T) *env.Env {
	decls := []api.Decl{
		{Name: "p.D", Under: integer, Methods: r.methods(text)}, {Name: "p.F0", Under: r.face(integer)}, {Name: "p.F1", Params: []api.Type{anything}, Under: r.face(param("p.F1#0"))},
		{Name: "p.G", Params: []api.Type{anything}, Under: slice(param("p.G#0")), Methods: r.methods(param("p.G#0"))}, {Name: "p.At", Under: pointer(named("p.D"))},
	}
	for i := range structCount {
		d := api.Decl{Name: fmt.Sprintf("p.S%d", i)}
		arg := text
		if i%2 > 0 {
			d.Params, arg = []api.Type{anything}, param(d.Name+"#0")
		}
		d.Under, d.Methods = r.aStruct(i, arg), r.methods(arg)
		decls = append(decls, d)
	}
	e, ok := env.New(decls, []api.Var{{Name: "Q", Type: r.face(integer)}, {Name: "R", Type: named("p.S0")}})
	if !ok {
		t.Fatalf("P13.1: this is refused: %v", decls)
	}
	return e
}

func (r maker) asked() []api.Type {
	all := []api.Type{named("p.D"), named("p.F0"), named("p.F1", integer), named("p.G", text), named("p.At"), param("Q"), param("R"), named("error"), anything}
	for i := range structCount {
		if i%2 > 0 {
			all = append(all, named(fmt.Sprintf("p.S%d", i), integer), named(fmt.Sprintf("p.S%d", i), param("Q")))
		} else {
			all = append(all, named(fmt.Sprintf("p.S%d", i)))
		}
		all = append(all, r.aStruct(0, text))
	}
	for _, x := range slices.Clone(all) {
		all = append(all, pointer(x))
	}
	return append(all, integer, slice(named("p.D")), pointer(pointer(named("p.D"))), r.face(integer))
}

func TestLikeModel(t *testing.T) {
	r := maker{rand.New(rand.NewSource(1500))}
	seen := map[string]int{}
	for range 200 {
		m := model{r.aWorld(t)}
		asked := r.asked()
		var faces []api.Type
		for range 6 {
			faces = append(faces, r.face(integer))
		}
		for _, x := range asked {
			m.expectLikeModel(t, x, append(faces, asked[1], asked[2], asked[5], named("error")), seen)
		}
		if t.Failed() {
			for _, name := range m.Names() {
				d, _ := m.Decl(name)
				t.Log(name, len(d.Params), types.Text(d.Under), d.Methods)
			}
			t.FailNow()
		}
	}
	for what, count := range map[string]int{"field": 1000, "method": 1000, "pointer": 500, "several": 500, "deep": 500, "nothing": 500, "implements": 1000, "misses": 1000, "set": 2000} {
		if seen[what] < count {
			t.Errorf("%s: only %d", what, seen[what])
		}
	}
}

func (m model) expectLikeModel(t *testing.T, x api.Type, faces []api.Type, seen map[string]int) {
	all := m.members(x)
	var set []string
	for _, name := range append(slices.Collect(maps.Keys(all)), "_", "", "q") {
		want, isOne := one(all[name])
		isOne = isOne && name != "_"
		if isOne && want.isInSet {
			set = append(set, name)
		}
		got, ok := lookup.Find(m.Env, x, name)
		isSame := got.Method == want.Method && got.Ptr == want.Ptr && slices.Equal(got.Path, want.Path) && types.Eq(got.Type, want.Type)
		if ok != isOne || ok && !isSame || !ok && tell(m.Env, x, name) != "nothing" {
			t.Errorf("P15.1: Find(%s, %s) is %s; %v, %v", types.Text(x), name, tell(m.Env, x, name), want, isOne)
		}
		count(seen, want, isOne, len(all[name]))
	}
	slices.Sort(set)
	if got := lookup.Set(m.Env, x); !slices.Equal(got, set) {
		t.Errorf("P15.2: Set(%s) is %q, not %q", types.Text(x), got, set)
	}
	seen["set"] += len(set)
	for _, face := range faces {
		m.expectMissingLikeModel(t, x, face, all, seen)
	}
}

func (m model) expectMissingLikeModel(t *testing.T, x, face api.Type, all map[string][]member, seen map[string]int) {
	names, sigs, isFace := typeset.Methods(m.Env, face)
	isFace = isFace && face.Kind != api.KParam
	missing := ""
	for i, name := range names {
		has, isOne := one(all[name])
		if isFace && missing == "" && (!isOne || !has.isInSet || !types.Eq(has.Type, sigs[i])) {
			missing = name
		}
	}
	if got := lookup.Missing(m.Env, x, face); got != missing {
		t.Errorf("P15.2: Missing(%s, %s) is %q, not %q", types.Text(x), types.Text(face), got, missing)
	}
	does := isFace && missing == "" && !typeset.Constraint(m.Env, face)
	if lookup.Implements(m.Env, x, face) != does {
		t.Errorf("P15.2: Implements(%s, %s) is %v", types.Text(x), types.Text(face), !does)
	}
	if does && len(names) > 0 {
		seen["implements"]++
	} else if missing != "" {
		seen["misses"]++
	}
}

func count(seen map[string]int, want member, isOne bool, roads int) {
	for what, is := range map[string]bool{
		"field": isOne && !want.Method, "method": isOne && want.Method, "pointer": isOne && want.Ptr, "several": isOne && roads > 1, "deep": isOne && len(want.Path) > 2, "nothing": !isOne && roads > 1,
	} {
		if is {
			seen[what]++
		}
	}
}
