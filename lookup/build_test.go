package lookup_test

import (
	"fmt"
	"slices"
	"strings"
	"testing"

	"sterling/api"
	"sterling/env"
	"sterling/lookup"
	"sterling/types"
	"sterling/worlds"
)

// What types are built of, by hand.

func basic(name string) api.Type { return api.Type{Kind: api.KBasic, Name: name} }

func named(name string, args ...api.Type) api.Type {
	return api.Type{Kind: api.KNamed, Name: name, Args: args}
}

func param(name string) api.Type { return api.Type{Kind: api.KParam, Name: name} }

func of(kind int, args ...api.Type) api.Type { return api.Type{Kind: kind, Args: args} }

func slice(element api.Type) api.Type { return of(api.KSlice, element) }

func pointer(element api.Type) api.Type { return of(api.KPointer, element) }

func array(length int, element api.Type) api.Type {
	return api.Type{Kind: api.KArray, Len: length, Args: []api.Type{element}}
}

func function(result api.Type, params ...api.Type) api.Type { return types.Func(params, result) }

func interfaceOf(name string, sig api.Type) api.Type {
	return api.Type{Kind: api.KInterface, Names: []string{name}, Args: []api.Type{sig}}
}

// structOf has fields, of which those without a name are embedded.
func structOf(fields ...api.Var) api.Type {
	t := api.Type{Kind: api.KStruct}
	for _, f := range fields {
		name := f.Name
		if name == "" {
			name = nameOf(f.Type)
		}
		t.Names, t.Emb, t.Args = append(t.Names, name), append(t.Emb, f.Name == ""), append(t.Args, f.Type)
	}
	return t
}

func nameOf(t api.Type) string {
	if t.Kind == api.KPointer {
		t = t.Args[0]
	}
	return t.Name[strings.LastIndexByte(t.Name, '.')+1:]
}

func field(name string, t api.Type) api.Var { return api.Var{Name: name, Type: t} }

func embedded(t api.Type) api.Var { return api.Var{Type: t} }

// method is one of a declaration, with a value or a pointer as its receiver.
func method(name string, isPtr bool, sig api.Type) api.Method {
	return api.Method{Name: name, Ptr: isPtr, Sig: sig}
}

var (
	integer  = basic("int")
	text     = basic("string")
	anything = api.Type{Kind: api.KInterface}
	void     = of(api.KVoid)
	nullary  = function(void)
)

// world is what is declared, with the texts of types that may be asked of it.
type world struct{ worlds.World }

func declared(t *testing.T, src string, others ...api.Decl) world {
	t.Helper()
	w, ok := worlds.Read(src, others...)
	if !ok {
		t.Fatalf("P13.1: this can't be read, or is refused: %s", src)
	}
	return world{w}
}

func made(t *testing.T, decls []api.Decl) *env.Env {
	t.Helper()
	e, ok := env.New(decls, nil)
	if !ok {
		t.Fatalf("P13.1: this is refused: %.300v", decls)
	}
	return e
}

// says is the type that a text says, in which `+` may stand for a blank.
func (w world) says(t *testing.T, src string) api.Type {
	t.Helper()
	x, ok := w.Type(strings.ReplaceAll(src, "+", " "))
	if !ok {
		t.Fatalf("this is no type: %s", src)
	}
	return x
}

// tell is what Find tells, as a text: `nothing`, or whether it is a field, a method, or a method with a pointer receiver;
// its path, and its type.
func tell(e *env.Env, t api.Type, name string) string {
	f, ok := lookup.Find(e, t, name)
	what := "field"
	switch {
	case !ok && !f.Method && !f.Ptr && len(f.Path) == 0 && fmt.Sprint(f.Type) == fmt.Sprint(api.Type{}):
		return "nothing"
	case !ok || f.Ptr && !f.Method || types.Text(f.Type) == "":
		return fmt.Sprint("wrong: ", f, ok)
	case f.Ptr:
		what = "*method"
	case f.Method:
		what = "method"
	}
	return fmt.Sprint(what, " ", f.Path, " ", types.Text(f.Type))
}

// The tables hold what is asked as texts.

// expectFind holds what Find tells of a type against a list of names, colons, and what it should tell, with `;` between.
func (w world) expectFind(t *testing.T, table map[string]string) {
	t.Helper()
	for src, list := range table {
		for _, line := range strings.Split(list, "; ") {
			name, want, _ := strings.Cut(line, ": ")
			if got := tell(w.Env, w.says(t, src), name); got != want {
				t.Errorf("P15.1: Find(%s, %s) is %s, not %s", src, name, got, want)
			}
		}
	}
}

// expectNothing asks for each of the names of each of the types.
func (w world) expectNothing(t *testing.T, all, names string) {
	t.Helper()
	for _, src := range strings.Fields(all) {
		for _, name := range strings.Split(names, " ") {
			if got := tell(w.Env, w.says(t, src), name); got != "nothing" {
				t.Errorf("P15.1: Find(%s, %q) is %s, not nothing", src, name, got)
			}
		}
	}
}

// expectSet holds the names of Set against a list with blanks between them.
func (w world) expectSet(t *testing.T, table map[string]string) {
	t.Helper()
	for src, want := range table {
		if got := lookup.Set(w.Env, w.says(t, src)); !slices.Equal(got, strings.Fields(want)) {
			t.Errorf("P15.2: Set(%s) is %q, not %s", src, got, want)
		}
	}
}

// expectImplements asks of each of all whether it implements iface.
func (w world) expectImplements(t *testing.T, want bool, iface string, all ...string) {
	t.Helper()
	for _, src := range all {
		if lookup.Implements(w.Env, w.says(t, src), w.says(t, iface)) != want {
			t.Errorf("P15.2: Implements(%s, %s) is %v", src, iface, !want)
		}
	}
}

// expectMissing asks of each of all which method of iface it misses.
func (w world) expectMissing(t *testing.T, want, iface string, all ...string) {
	t.Helper()
	for _, src := range all {
		if got := lookup.Missing(w.Env, w.says(t, src), w.says(t, iface)); got != want {
			t.Errorf("P15.2: Missing(%s, %s) is %q, not %q", src, iface, got, want)
		}
	}
}
