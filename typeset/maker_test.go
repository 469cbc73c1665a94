package typeset_test

import (
	"fmt"
	"math/rand"
	"strings"
	"testing"

	"sterling/api"
	"sterling/types"
)

// maker makes declarations at random.
type maker struct{ *rand.Rand }

func newMaker(seed int64) *maker { return &maker{rand.New(rand.NewSource(seed))} }

func pick[T any](r *maker, list ...T) T { return list[r.Intn(len(list))] }

// sometimes is a list with each of all that is taken, one in that many.
func sometimes[T any](r *maker, in int, all ...T) []T {
	var list []T
	for _, x := range all {
		if r.Intn(in) == 0 {
			list = append(list, x)
		}
	}
	return list
}

// structural are the underlying types in terms.
func structural() []api.Type {
	return []api.Type{integer, text, slice(integer), pointer(text), structOf(false, "a", integer), array(2, anything), function(void)}
}

// pool are the types that stand in terms: structural ones, and declared ones that stand for each.
func pool() []api.Type {
	all := structural()
	for i := range structural() {
		all = append(all, named(fmt.Sprintf("p.D%d", i)))
	}
	return all
}

// universe are all types of the pool, slices of them, types that are declared as these, and those of other terms.
func (r *maker) universe() []api.Type {
	all := pool()
	for _, x := range pool() {
		all = append(all, slice(x))
	}
	for i := range all {
		all = append(all, named(fmt.Sprintf("z.E%d", i)))
	}
	for i := range structCount {
		all = append(all, named(fmt.Sprintf("p.S%d", i)))
	}
	for i := range paramCount {
		all = append(all, param(fmt.Sprintf("Q%d", i)), slice(param(fmt.Sprintf("Q%d", i))))
	}
	return append(all, basic("bool"), pointer(integer), named("error"), slice(named("error")), named("p.B", integer), slice(slice(integer)), array(1, param("Q0")), array(1, param("Q1")))
}

const (
	structCount = 5
	faceCount   = 6
	paramCount  = 5
)

func (r *maker) methodNames() []string { return sometimes(r, 3, "M", "N", "O") }

func (r *maker) sig() api.Type {
	return pick(r, function(void), function(void), function(void), function(integer))
}

func (r *maker) methods() []api.Method {
	var all []api.Method
	for _, name := range r.methodNames() {
		all = append(all, methodOf(name, r.Intn(3) == 0, r.sig()))
	}
	return all
}

func (r *maker) aTerm() api.Term { return api.Term{Tilde: r.Intn(2) == 0, Type: pick(r, pool()...)} }

// anEmbedded is an interface, mostly one of a higher number.
func (r *maker) anEmbedded(number int) api.Type {
	if r.Intn(40) == 0 {
		return pick(r, named("p.F", integer), named(fmt.Sprintf("p.I%d", r.Intn(faceCount))))
	}
	if number+1 < faceCount && r.Intn(2) == 0 {
		return named(fmt.Sprintf("p.I%d", number+1+r.Intn(faceCount-number-1)))
	}
	return pick(r, named("error"), named("comparable"), anything, named("p.G", pick(r, pool()...)), sets(terms(r.aTerm(), r.aTerm())), interfaceOf("N", r.sig()), named("p.C"))
}

func (r *maker) aFace(number int) api.Type {
	t := api.Type{Kind: api.KInterface, Names: r.methodNames()}
	for range t.Names {
		t.Args = append(t.Args, r.sig())
	}
	for range r.Intn(3) {
		if r.Intn(2) == 0 {
			t.Sets = append(t.Sets, terms(only(r.anEmbedded(number))))
			continue
		}
		var union []api.Term
		for range 1 + r.Intn(5) {
			union = append(union, r.aTerm())
		}
		t.Sets = append(t.Sets, union)
	}
	return t
}

// aStruct embeds structs of higher numbers, and pointers to all.
func (r *maker) aStruct(number int) api.Type {
	t := api.Type{Kind: api.KStruct}
	add := func(emb bool, name string, x api.Type) {
		t.Names, t.Emb, t.Args = append(t.Names, name), append(t.Emb, emb), append(t.Args, x)
	}
	for i := range structCount {
		name := fmt.Sprintf("S%d", i)
		switch {
		case r.Intn(4) == 0:
			add(true, name, pointer(named("p."+name)))
		case i > number && r.Intn(3) == 0, r.Intn(60) == 0:
			add(true, name, named("p."+name))
		}
	}
	for _, name := range sometimes(r, 5, "D0", "D1", "I4", "I5", "D2") {
		add(true, name, pick(r, named("p."+name), named("p."+name), pointer(named("p."+name))))
	}
	for _, name := range sometimes(r, 8, "M", "N", "a") {
		add(false, name, pick(r, integer, slice(integer), anything))
	}
	return t
}

func (r *maker) aWorld(t *testing.T) world {
	w := world{decls: []api.Decl{
		{Name: "p.G", Params: []api.Type{anything}, Under: sets(terms(only(param("p.G#0")), tilde(slice(param("p.G#0")))))},
		{Name: "p.F", Params: []api.Type{anything}, Under: sets(terms(only(named("p.F", slice(param("p.F#0"))))))},
		{Name: "p.B", Params: []api.Type{anything}, Under: structOf(false, "a", param("p.B#0"))},
		{Name: "p.C", Under: named("comparable")},
		{Name: "p.L", Under: array(1, named("p.L"))},
	}}
	for i, x := range structural() {
		w.decls = append(w.decls, api.Decl{Name: fmt.Sprintf("p.D%d", i), Under: x, Methods: r.methods()})
	}
	for i, x := range r.universe()[:2*len(pool())] {
		w.decls = append(w.decls, api.Decl{Name: fmt.Sprintf("z.E%d", i), Under: x})
	}
	for i := range structCount {
		w.decls = append(w.decls, api.Decl{Name: fmt.Sprintf("p.S%d", i), Under: r.aStruct(i), Methods: r.methods()})
	}
	for i := range faceCount {
		w.decls = append(w.decls, api.Decl{Name: fmt.Sprintf("p.I%d", i), Under: r.aFace(i)})
	}
	for i := range paramCount {
		c := pick(r, r.aFace(0), r.aFace(0), named(fmt.Sprintf("p.I%d", r.Intn(faceCount))), pick(r, pool()...), r.anEmbedded(0), param(fmt.Sprintf("Q%d", r.Intn(paramCount))), array(1, param(pick(r, "Q0", "Q1"))))
		w.params = append(w.params, api.Var{Name: fmt.Sprintf("Q%d", i), Type: c})
	}
	w.make(t)
	return w
}

// allAsked are types of all sorts.
func (r *maker) allAsked(w world) []api.Type {
	all := []api.Type{anything, named("error"), asking, named("p.C"), named("p.L"), named("p.B", anything), named("p.B", param("Q0")), named("p.G", integer), named("p.F", text), array(0, param("Q1")), slice(text)}
	for i := range faceCount {
		all = append(all, named(fmt.Sprintf("p.I%d", i)), r.aFace(0))
	}
	for i := range paramCount {
		all = append(all, param(fmt.Sprintf("Q%d", i)), pick(r, pool()...))
	}
	for i := range structCount {
		x := named(fmt.Sprintf("p.S%d", i))
		all = append(all, x, pointer(x), r.aStruct(0), pointer(r.aStruct(-1)), pointer(named(fmt.Sprintf("p.D%d", i))))
	}
	return all
}

// tell is what is declared, as far as it is made at random.
func (w world) tell() string {
	var b strings.Builder
	for _, d := range w.decls {
		if strings.HasPrefix(d.Name, "z.") {
			continue
		}
		fmt.Fprintf(&b, "\n%s %s", d.Name, types.Text(d.Under))
		for _, m := range d.Methods {
			fmt.Fprintf(&b, "; %s %v %s", m.Name, m.Ptr, types.Text(m.Sig))
		}
	}
	for _, p := range w.params {
		fmt.Fprintf(&b, "\n%s %s", p.Name, types.Text(p.Type))
	}
	return b.String()
}
