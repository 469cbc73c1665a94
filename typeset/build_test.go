package typeset_test

import (
	"fmt"
	"slices"
	"strings"
	"testing"

	"sterling/api"
	"sterling/env"
	"sterling/types"
	"sterling/typeset"
	"sterling/worlds"
)

// What types are built of, by hand.

func basic(name string) api.Type { return api.Type{Kind: api.KBasic, Name: name} }

func named(name string, args ...api.Type) api.Type {
	return api.Type{Kind: api.KNamed, Name: name, Args: args}
}

func param(name string) api.Type { return api.Type{Kind: api.KParam, Name: name} }

func of(kind int, args ...api.Type) api.Type { return api.Type{Kind: kind, Args: args} }

func slice(element api.Type) api.Type { return of(api.KSlice, element) }

func pointer(element api.Type) api.Type { return of(api.KPointer, element) }

func array(length int, element api.Type) api.Type {
	return api.Type{Kind: api.KArray, Len: length, Args: []api.Type{element}}
}

func function(result api.Type, params ...api.Type) api.Type {
	args := append(slices.Clone(params), result)
	return api.Type{Kind: api.KFunc, Len: len(params), Args: args}
}

func sets(unions ...[]api.Term) api.Type { return api.Type{Kind: api.KInterface, Sets: unions} }

func terms(all ...api.Term) []api.Term { return all }

func only(t api.Type) api.Term { return api.Term{Type: t} }

func tilde(t api.Type) api.Term { return api.Term{Tilde: true, Type: t} }

func interfaceOf(name string, sig api.Type) api.Type {
	return api.Type{Kind: api.KInterface, Names: []string{name}, Args: []api.Type{sig}}
}

func structOf(emb bool, name string, t api.Type) api.Type {
	return api.Type{Kind: api.KStruct, Names: []string{name}, Emb: []bool{emb}, Args: []api.Type{t}}
}

// embedding is a struct that embeds types, which are declared or pointers to such.
func embedding(all ...api.Type) api.Type {
	t := api.Type{Kind: api.KStruct}
	for _, x := range all {
		inner := x
		if x.Kind == api.KPointer {
			inner = x.Args[0]
		}
		name := inner.Name[strings.LastIndexByte(inner.Name, '.')+1:]
		t.Names, t.Emb, t.Args = append(t.Names, name), append(t.Emb, true), append(t.Args, x)
	}
	return t
}

var (
	integer  = basic("int")
	text     = basic("string")
	anything = api.Type{Kind: api.KInterface}
	null     = of(api.KNil)
	void     = of(api.KVoid)
	whole    = api.Type{Kind: api.KUntyped, Name: "int"}
	asking   = named("comparable")
)

// world is what is declared, and what its texts may mention: further type parameters by their names, a declaration's
// by the declaration's name, `__`, and a number.
type world struct {
	*env.Env
	decls  []api.Decl
	params []api.Var
}

// declared is the world of a text, and of other declarations.
func declared(t *testing.T, src string, others ...api.Decl) world {
	t.Helper()
	read, ok := worlds.Read(src, others...)
	if !ok {
		t.Fatalf("P13.1: this can't be read, or is refused: %s", src)
	}
	return world{read.Env, read.Decls, read.Params}
}

// says is the type that a text says, in which `+` may stand for a blank.
func (w world) says(t *testing.T, src string) api.Type {
	t.Helper()
	x, ok := worlds.World{Decls: w.decls, Params: w.params}.Type(strings.ReplaceAll(src, "+", " "))
	if !ok {
		t.Fatalf("this is no type: %s", src)
	}
	return x
}

func expectMay(t *testing.T, x api.Type) {
	t.Helper()
	if !types.May(x) {
		t.Fatalf("P11.1: it may not be: %.300v", x)
	}
}

// tellTerms is what Terms tells, as a text: `no set`, `all`, or the terms.
func tellTerms(e *env.Env, x api.Type) string {
	list, isAll, isSet := typeset.Terms(e, x)
	switch {
	case !isSet && !isAll && len(list) == 0:
		return "no set"
	case isSet && isAll && len(list) == 0:
		return "all"
	case !isSet || isAll:
		return fmt.Sprint("wrong: ", list, isAll, isSet)
	}
	var told []string
	for _, term := range list {
		sign := ""
		if term.Tilde {
			sign = "~"
		}
		told = append(told, sign+types.Text(term.Type))
	}
	return strings.Join(told, " | ")
}

// tellMethods is what Methods tells, as a text: `no set`, or the methods.
func tellMethods(e *env.Env, x api.Type) string {
	names, sigs, isSet := typeset.Methods(e, x)
	if !isSet && len(names) == 0 && len(sigs) == 0 {
		return "no set"
	}
	if !isSet || len(names) != len(sigs) {
		return fmt.Sprint("wrong: ", names, sigs, isSet)
	}
	var told []string
	for i, name := range names {
		told = append(told, name+strings.TrimPrefix(types.Text(sigs[i]), "func"))
	}
	return strings.Join(told, "; ")
}

// tellCore is what Core tells, as a text: `none`, or the type.
func tellCore(e *env.Env, x api.Type) string {
	core, has := typeset.Core(e, x)
	if !has && fmt.Sprint(core) == fmt.Sprint(api.Type{}) {
		return "none"
	}
	if !has || types.Text(core) == "" {
		return fmt.Sprint("wrong: ", core, has)
	}
	return types.Text(core)
}

// The tables hold what is asked as texts.

// words are the types of a list with blanks between them.
func words(list string) []string { return strings.Fields(list) }

func (w world) expectTerms(t *testing.T, table map[string]string) {
	t.Helper()
	for src, want := range table {
		if got := tellTerms(w.Env, w.says(t, src)); got != want {
			t.Errorf("P14.1: Terms(%s) are %s, not %s", src, got, want)
		}
	}
}

func (w world) expectMethods(t *testing.T, table map[string]string) {
	t.Helper()
	for src, want := range table {
		if got := tellMethods(w.Env, w.says(t, src)); got != want {
			t.Errorf("P14.1: Methods(%s) are %s, not %s", src, got, want)
		}
	}
}

func (w world) expectConstraint(t *testing.T, want bool, all ...string) {
	t.Helper()
	for _, src := range all {
		if typeset.Constraint(w.Env, w.says(t, src)) != want {
			t.Errorf("P14.1: Constraint(%s) is %v", src, !want)
		}
	}
}

func (w world) expectComparable(t *testing.T, want bool, all ...string) {
	t.Helper()
	for _, src := range all {
		if typeset.Comparable(w.Env, w.says(t, src)) != want {
			t.Errorf("P14.2: Comparable(%s) is %v", src, !want)
		}
	}
}

// expectSatisfies asks of each of all whether it satisfies c.
func (w world) expectSatisfies(t *testing.T, want bool, c string, all ...string) {
	t.Helper()
	for _, src := range all {
		if typeset.Satisfies(w.Env, w.says(t, src), w.says(t, c)) != want {
			t.Errorf("P14.2: Satisfies(%s, %s) is %v", src, c, !want)
		}
	}
}

func (w world) expectCore(t *testing.T, table map[string]string) {
	t.Helper()
	for src, want := range table {
		if got := tellCore(w.Env, w.says(t, src)); got != want {
			t.Errorf("P14.2: Core(%s) is %s, not %s", src, got, want)
		}
	}
}

// make makes the Env of what is declared.
func (w *world) make(t *testing.T) {
	t.Helper()
	var ok bool
	if w.Env, ok = env.New(w.decls, w.params); !ok {
		t.Fatalf("P13.1: this is refused: %.300v, %.300v", w.decls, w.params)
	}
}
