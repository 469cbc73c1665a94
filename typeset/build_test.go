package typeset_test

import (
	"fmt"
	"slices"
	"strconv"
	"strings"
	"testing"

	"sterling/api"
	"sterling/env"
	"sterling/parseexpr"
	"sterling/parsefile"
	"sterling/types"
	"sterling/typeset"
)

// What types are built of, by hand.

func basic(name string) api.Type { return api.Type{Kind: api.KBasic, Name: name} }

func named(name string, args ...api.Type) api.Type {
	return api.Type{Kind: api.KNamed, Name: name, Args: args}
}

func param(name string) api.Type { return api.Type{Kind: api.KParam, Name: name} }

func of(kind int, args ...api.Type) api.Type { return api.Type{Kind: kind, Args: args} }

func slice(element api.Type) api.Type { return of(api.KSlice, element) }

func pointer(element api.Type) api.Type { return of(api.KPointer, element) }

func array(length int, element api.Type) api.Type {
	return api.Type{Kind: api.KArray, Len: length, Args: []api.Type{element}}
}

func function(result api.Type, params ...api.Type) api.Type {
	args := append(slices.Clone(params), result)
	return api.Type{Kind: api.KFunc, Len: len(params), Args: args}
}

func sets(unions ...[]api.Term) api.Type { return api.Type{Kind: api.KInterface, Sets: unions} }

func terms(all ...api.Term) []api.Term { return all }

func only(t api.Type) api.Term { return api.Term{Type: t} }

func tilde(t api.Type) api.Term { return api.Term{Tilde: true, Type: t} }

func interfaceOf(name string, sig api.Type) api.Type {
	return api.Type{Kind: api.KInterface, Names: []string{name}, Args: []api.Type{sig}}
}

func structOf(emb bool, name string, t api.Type) api.Type {
	return api.Type{Kind: api.KStruct, Names: []string{name}, Emb: []bool{emb}, Args: []api.Type{t}}
}

// embedding is a struct that embeds types, which are declared or pointers to such.
func embedding(all ...api.Type) api.Type {
	t := api.Type{Kind: api.KStruct}
	for _, x := range all {
		inner := x
		if x.Kind == api.KPointer {
			inner = x.Args[0]
		}
		name := inner.Name[strings.LastIndexByte(inner.Name, '.')+1:]
		t.Names, t.Emb, t.Args = append(t.Names, name), append(t.Emb, true), append(t.Args, x)
	}
	return t
}

var (
	integer  = basic("int")
	text     = basic("string")
	anything = api.Type{Kind: api.KInterface}
	null     = of(api.KNil)
	void     = of(api.KVoid)
	whole    = api.Type{Kind: api.KUntyped, Name: "int"}
	asking   = named("comparable")
)

// world is what is declared, and what its texts may mention: further type parameters by their names, a declaration's
// by the declaration's name, `__`, and a number.
type world struct {
	*env.Env
	decls  []api.Decl
	params []api.Var
}

// declared is the world of a text: the declarations of a file of a package p. The type parameters of a function that is
// called `further` are further ones.
func declared(t *testing.T, src string, others ...api.Decl) world {
	t.Helper()
	file, at, ok := parsefile.File([]byte("package p\n" + src))
	if !ok {
		t.Fatalf("what is declared can't be read from %d on: %s", at, src)
	}
	w := world{decls: slices.Clone(others)}
	for _, n := range file.Kids {
		w.declare(n)
	}
	if w.Env, ok = env.New(w.decls, w.params); !ok {
		t.Fatalf("P13.1: this is refused: %s", src)
	}
	return w
}

func (w *world) declare(n api.Node) {
	switch {
	case n.Kind == api.NType:
		s := scope{}
		d := api.Decl{Name: "p." + n.Text}
		for i, p := range n.Kids[0].Kids {
			s[p.Text] = fmt.Sprintf("%s#%d", d.Name, i)
		}
		for _, p := range n.Kids[0].Kids {
			d.Params = append(d.Params, s.typeOf(p.Kids[0]))
		}
		d.Under = s.typeOf(n.Kids[1])
		w.decls = append(w.decls, d)
	case n.Kids[0].Kind == api.NParam:
		w.declareMethod(n)
	default:
		s := scope{}
		for _, p := range n.Kids[1].Kids {
			s[p.Text] = p.Text
		}
		for _, p := range n.Kids[1].Kids {
			w.params = append(w.params, api.Var{Name: p.Text, Type: s.typeOf(p.Kids[0])})
		}
	}
}

func (w *world) declareMethod(n api.Node) {
	receiver := n.Kids[0].Kids[0]
	m := api.Method{Name: n.Text, Ptr: receiver.Kind == api.NStar}
	if m.Ptr {
		receiver = receiver.Kids[0]
	}
	s := scope{}
	if receiver.Kind == api.NIndex {
		for i, arg := range receiver.Kids[1:] {
			s[arg.Text] = fmt.Sprintf("p.%s#%d", receiver.Kids[0].Text, i)
		}
		receiver = receiver.Kids[0]
	}
	m.Sig = s.typeOf(n.Kids[2])
	place := slices.IndexFunc(w.decls, func(d api.Decl) bool { return d.Name == "p."+receiver.Text })
	w.decls[place].Methods = append(w.decls[place].Methods, m)
}

// says is the type that a text says, in which `+` may stand for a blank.
func (w world) says(t *testing.T, src string) api.Type {
	t.Helper()
	n, ok := parseexpr.Type([]byte(strings.ReplaceAll(src, "+", " ")))
	if !ok {
		t.Fatalf("this is no type: %s", src)
	}
	s := scope{}
	for _, p := range w.params {
		s[p.Name] = p.Name
	}
	for _, d := range w.decls {
		for i := range d.Params {
			_, name, _ := strings.Cut(d.Name, ".")
			s[fmt.Sprintf("%s__%d", name, i)] = fmt.Sprintf("%s#%d", d.Name, i)
		}
	}
	return s.typeOf(n)
}

// scope are the names of type parameters, as they are written and as they are.
type scope map[string]string

func (s scope) typeOf(n api.Node) api.Type {
	switch n.Kind {
	case api.NName:
		return s.byName(n.Text)
	case api.NDot:
		return named(n.Kids[0].Text + "." + n.Text)
	case api.NIndex:
		return named(s.typeOf(n.Kids[0]).Name, s.typesOf(n.Kids[1:])...)
	case api.NParen:
		return s.typeOf(n.Kids[0])
	case api.NArray:
		length, _ := strconv.Atoi(n.Kids[0].Text)
		return array(length, s.typeOf(n.Kids[1]))
	case api.NSlice:
		return slice(s.typeOf(n.Kids[0]))
	case api.NStar:
		return pointer(s.typeOf(n.Kids[0]))
	case api.NMap:
		return of(api.KMap, s.typesOf(n.Kids)...)
	case api.NFuncType:
		return s.function(n)
	case api.NStruct:
		return s.structOf(n)
	case api.NInterface:
		return s.interfaceOf(n)
	}
	panic("no type")
}

func (s scope) typesOf(list []api.Node) []api.Type {
	var all []api.Type
	for _, n := range list {
		all = append(all, s.typeOf(n))
	}
	return all
}

func (s scope) byName(name string) api.Type {
	if param, isParam := s[name]; isParam {
		return api.Type{Kind: api.KParam, Name: param}
	}
	switch name {
	case "any":
		return anything
	case "error", "comparable":
		return named(name)
	}
	if t := types.Basic(name); t.Kind != api.KNone {
		return t
	}
	return named("p." + name)
}

func (s scope) function(n api.Node) api.Type {
	var params []api.Type
	for _, p := range n.Kids[0].Kids {
		params = append(params, s.typeOf(p.Kids[0]))
	}
	if n.Kids[1].Kind == api.NNone {
		return function(void, params...)
	}
	return function(s.typeOf(n.Kids[1]), params...)
}

func (s scope) structOf(n api.Node) api.Type {
	t := api.Type{Kind: api.KStruct}
	for _, f := range n.Kids {
		x := s.typeOf(f.Kids[0])
		name := f.Text
		if name == "" {
			name = embedding(x).Names[0]
		}
		t.Names, t.Emb, t.Args = append(t.Names, name), append(t.Emb, f.Text == ""), append(t.Args, x)
	}
	return t
}

func (s scope) interfaceOf(n api.Node) api.Type {
	t := api.Type{Kind: api.KInterface}
	for _, part := range n.Kids {
		if part.Kind == api.NMethod {
			t.Names, t.Args = append(t.Names, part.Text), append(t.Args, s.typeOf(part.Kids[0]))
			continue
		}
		var union []api.Term
		for _, x := range part.Kids {
			if x.Kind == api.NTilde {
				union = append(union, tilde(s.typeOf(x.Kids[0])))
			} else {
				union = append(union, only(s.typeOf(x)))
			}
		}
		t.Sets = append(t.Sets, union)
	}
	return t
}

func expectMay(t *testing.T, x api.Type) {
	t.Helper()
	if !types.May(x) {
		t.Fatalf("P11.1: it may not be: %.300v", x)
	}
}

// tellTerms is what Terms tells, as a text: `no set`, `all`, or the terms.
func tellTerms(e *env.Env, x api.Type) string {
	list, isAll, isSet := typeset.Terms(e, x)
	switch {
	case !isSet && !isAll && len(list) == 0:
		return "no set"
	case isSet && isAll && len(list) == 0:
		return "all"
	case !isSet || isAll:
		return fmt.Sprint("wrong: ", list, isAll, isSet)
	}
	var told []string
	for _, term := range list {
		sign := ""
		if term.Tilde {
			sign = "~"
		}
		told = append(told, sign+types.Text(term.Type))
	}
	return strings.Join(told, " | ")
}

// tellMethods is what Methods tells, as a text: `no set`, or the methods.
func tellMethods(e *env.Env, x api.Type) string {
	names, sigs, isSet := typeset.Methods(e, x)
	if !isSet && len(names) == 0 && len(sigs) == 0 {
		return "no set"
	}
	if !isSet || len(names) != len(sigs) {
		return fmt.Sprint("wrong: ", names, sigs, isSet)
	}
	var told []string
	for i, name := range names {
		told = append(told, name+strings.TrimPrefix(types.Text(sigs[i]), "func"))
	}
	return strings.Join(told, "; ")
}

// tellCore is what Core tells, as a text: `none`, or the type.
func tellCore(e *env.Env, x api.Type) string {
	core, has := typeset.Core(e, x)
	if !has && fmt.Sprint(core) == fmt.Sprint(api.Type{}) {
		return "none"
	}
	if !has || types.Text(core) == "" {
		return fmt.Sprint("wrong: ", core, has)
	}
	return types.Text(core)
}

// The tables hold what is asked as texts.

// words are the types of a list with blanks between them.
func words(list string) []string { return strings.Fields(list) }

func (w world) expectTerms(t *testing.T, table map[string]string) {
	t.Helper()
	for src, want := range table {
		if got := tellTerms(w.Env, w.says(t, src)); got != want {
			t.Errorf("P14.1: Terms(%s) are %s, not %s", src, got, want)
		}
	}
}

func (w world) expectMethods(t *testing.T, table map[string]string) {
	t.Helper()
	for src, want := range table {
		if got := tellMethods(w.Env, w.says(t, src)); got != want {
			t.Errorf("P14.1: Methods(%s) are %s, not %s", src, got, want)
		}
	}
}

func (w world) expectConstraint(t *testing.T, want bool, all ...string) {
	t.Helper()
	for _, src := range all {
		if typeset.Constraint(w.Env, w.says(t, src)) != want {
			t.Errorf("P14.1: Constraint(%s) is %v", src, !want)
		}
	}
}

func (w world) expectComparable(t *testing.T, want bool, all ...string) {
	t.Helper()
	for _, src := range all {
		if typeset.Comparable(w.Env, w.says(t, src)) != want {
			t.Errorf("P14.2: Comparable(%s) is %v", src, !want)
		}
	}
}

// expectSatisfies asks of each of all whether it satisfies c.
func (w world) expectSatisfies(t *testing.T, want bool, c string, all ...string) {
	t.Helper()
	for _, src := range all {
		if typeset.Satisfies(w.Env, w.says(t, src), w.says(t, c)) != want {
			t.Errorf("P14.2: Satisfies(%s, %s) is %v", src, c, !want)
		}
	}
}

func (w world) expectCore(t *testing.T, table map[string]string) {
	t.Helper()
	for src, want := range table {
		if got := tellCore(w.Env, w.says(t, src)); got != want {
			t.Errorf("P14.2: Core(%s) is %s, not %s", src, got, want)
		}
	}
}

// make makes the Env of what is declared.
func (w *world) make(t *testing.T) {
	t.Helper()
	var ok bool
	if w.Env, ok = env.New(w.decls, w.params); !ok {
		t.Fatalf("P13.1: this is refused: %.300v, %.300v", w.decls, w.params)
	}
}
