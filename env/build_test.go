package env_test

import (
	"fmt"
	"slices"
	"strings"
	"testing"

	"sterling/api"
	"sterling/env"
)

// What types are built of, by hand.

func basic(name string) api.Type { return api.Type{Kind: api.KBasic, Name: name} }

func named(name string, args ...api.Type) api.Type {
	return api.Type{Kind: api.KNamed, Name: name, Args: args}
}

func param(name string) api.Type { return api.Type{Kind: api.KParam, Name: name} }

func untyped(name string) api.Type { return api.Type{Kind: api.KUntyped, Name: name} }

func of(kind int, args ...api.Type) api.Type { return api.Type{Kind: kind, Args: args} }

func array(length int, element api.Type) api.Type {
	return api.Type{Kind: api.KArray, Len: length, Args: []api.Type{element}}
}

func slice(element api.Type) api.Type { return of(api.KSlice, element) }

func pointer(element api.Type) api.Type { return of(api.KPointer, element) }

func mapOf(key, element api.Type) api.Type { return of(api.KMap, key, element) }

func void() api.Type { return of(api.KVoid) }

func null() api.Type { return of(api.KNil) }

func function(result api.Type, params ...api.Type) api.Type {
	args := append(append([]api.Type(nil), params...), result)
	return api.Type{Kind: api.KFunc, Len: len(params), Args: args}
}

// member is a field, or a method of an interface.
type member struct {
	name string
	t    api.Type
	emb  bool
}

func structOf(fields ...member) api.Type {
	t := api.Type{Kind: api.KStruct}
	for _, f := range fields {
		t.Names, t.Emb, t.Args = append(t.Names, f.name), append(t.Emb, f.emb), append(t.Args, f.t)
	}
	return t
}

func field(t api.Type) api.Type { return structOf(member{name: "a", t: t}) }

func embedding(name string, t api.Type) api.Type {
	return structOf(member{name: name, t: t, emb: true})
}

func methods(list ...member) api.Type {
	t := api.Type{Kind: api.KInterface}
	for _, m := range list {
		t.Names, t.Args = append(t.Names, m.name), append(t.Args, m.t)
	}
	return t
}

func sets(unions ...[]api.Term) api.Type { return api.Type{Kind: api.KInterface, Sets: unions} }

func both(methods api.Type, unions ...[]api.Term) api.Type {
	methods.Sets = unions
	return methods
}

func union(terms ...api.Term) []api.Term { return terms }

func only(t api.Type) api.Term { return api.Term{Type: t} }

func tilde(t api.Type) api.Term { return api.Term{Tilde: true, Type: t} }

func list(all ...api.Type) []api.Type { return all }

func names(all ...string) []string { return all }

func repeated(t api.Type, count int) []api.Type { return slices.Repeat(list(t), count) }

// nested is t in that many slices.
func nested(t api.Type, count int) api.Type {
	for range count {
		t = slice(t)
	}
	return t
}

var (
	integer   = basic("int")
	text      = basic("string")
	anything  = api.Type{Kind: api.KInterface}
	nullary   = function(void())
	errorType = methods(member{name: "Error", t: function(text)})
)

// What declarations are built of.

func decl(name string, under api.Type, methods ...api.Method) api.Decl {
	return api.Decl{Name: name, Under: under, Methods: methods}
}

// generic has that many parameters, of all types.
func generic(name string, count int, under api.Type, methods ...api.Method) api.Decl {
	return constrained(name, repeated(anything, count), under, methods...)
}

func constrained(name string, constraints []api.Type, under api.Type, methods ...api.Method) api.Decl {
	return api.Decl{Name: name, Params: constraints, Under: under, Methods: methods}
}

func method(name string, sig api.Type) api.Method { return api.Method{Name: name, Sig: sig} }

func further(name string, constraint api.Type) api.Var {
	return api.Var{Name: name, Type: constraint}
}

func decls(all ...api.Decl) []api.Decl { return all }

func params(all ...api.Var) []api.Var { return all }

// made is what New makes of what it must not refuse.
func made(t *testing.T, decls []api.Decl, params []api.Var) *env.Env {
	t.Helper()
	e, ok := env.New(decls, params)
	if e == nil || !ok {
		t.Fatalf("P13.1: New(%s, %s) is refused", tellDecls(decls), tellParams(params))
	}
	return e
}

func expectNew(t *testing.T, why string, decls []api.Decl, params []api.Var) {
	t.Helper()
	if e, ok := env.New(decls, params); e == nil || !ok {
		t.Errorf("P13.1: %s: New(%s, %s) is refused", why, tellDecls(decls), tellParams(params))
	}
}

func expectNoNew(t *testing.T, why string, decls []api.Decl, params []api.Var) {
	t.Helper()
	if e, ok := env.New(decls, params); e != nil || ok {
		t.Errorf("P13.1: %s: New(%s, %s) is not refused", why, tellDecls(decls), tellParams(params))
	}
}

func expectUnder(t *testing.T, why string, e *env.Env, x, want api.Type) {
	t.Helper()
	if got, ok := e.Under(x); !ok || whole(got) != whole(want) {
		t.Errorf("P13.2: %s: Under(%s) is %s, %v, not %s", why, brief(x), brief(got), ok, brief(want))
	}
}

// expectNoUnder asks for Holds, too: it is false where Under is.
func expectNoUnder(t *testing.T, why string, e *env.Env, x api.Type) {
	t.Helper()
	if got, ok := e.Under(x); ok || whole(got) != whole(api.Type{}) {
		t.Errorf("P13.2: %s: Under(%s) is %s, %v, not false", why, brief(x), brief(got), ok)
	}
	expectHolds(t, why, e, x, false)
}

func expectHolds(t *testing.T, why string, e *env.Env, x api.Type, want bool) {
	t.Helper()
	if got := e.Holds(x); got != want {
		t.Errorf("P13.2: %s: Holds(%s) is %v", why, brief(x), got)
	}
}

func expectDecl(t *testing.T, why string, e *env.Env, name string, want api.Decl) {
	t.Helper()
	if got, ok := e.Decl(name); !ok || tellDecl(got) != tellDecl(want) {
		t.Errorf("P13.1: %s: Decl(%.100q) is %.300s, %v, not %.300s", why, name, tellDecl(got), ok, tellDecl(want))
	}
}

func expectNoDecl(t *testing.T, why string, e *env.Env, name string) {
	t.Helper()
	if got, ok := e.Decl(name); ok || tellDecl(got) != tellDecl(api.Decl{}) {
		t.Errorf("P13.1: %s: Decl(%.100q) is %.300s, %v", why, name, tellDecl(got), ok)
	}
}

func expectConstraint(t *testing.T, why string, e *env.Env, name string, want api.Type) {
	t.Helper()
	if got, ok := e.Constraint(name); !ok || whole(got) != whole(want) {
		t.Errorf("P13.1: %s: Constraint(%.100q) is %s, %v, not %s", why, name, brief(got), ok, brief(want))
	}
}

func expectNoConstraint(t *testing.T, why string, e *env.Env, name string) {
	t.Helper()
	if got, ok := e.Constraint(name); ok || whole(got) != whole(api.Type{}) {
		t.Errorf("P13.1: %s: Constraint(%.100q) is %s, %v", why, name, brief(got), ok)
	}
}

func expectNames(t *testing.T, why string, e *env.Env, want ...string) {
	t.Helper()
	if got := e.Names(); !slices.Equal(got, want) {
		t.Errorf("P13.1: %s: Names() is %.300q, not %.300q", why, got, want)
	}
}

// brief is what a message shows of a type.
func brief(t api.Type) string { return fmt.Sprintf("%.300s", whole(t)) }

// whole tells all of a type, but not its lists' spare room, and not whether an empty list is nil.
func whole(t api.Type) string { return telling(t, false) }

// telling tells the spare room, too, if room is asked for.
func telling(t api.Type, room bool) string {
	var b strings.Builder
	writeWhole(&b, t, room)
	return b.String()
}

// writeWhole stops somewhere, as there are types that hold themselves.
func writeWhole(b *strings.Builder, t api.Type, room bool) {
	if b.Len() > 1<<20 {
		b.WriteString("..")
		return
	}
	fmt.Fprintf(b, "(%d %q %d %q %v", t.Kind, t.Name, t.Len, shown(t.Names, room), shown(t.Emb, room))
	for _, arg := range shown(t.Args, room) {
		b.WriteByte(' ')
		writeWhole(b, arg, room)
	}
	for _, union := range shown(t.Sets, room) {
		b.WriteString(" {")
		for _, term := range shown(union, room) {
			fmt.Fprintf(b, "%v ", term.Tilde)
			writeWhole(b, term.Type, room)
		}
		b.WriteByte('}')
	}
	b.WriteByte(')')
}

func shown[T any](list []T, room bool) []T {
	if room {
		return list[:cap(list)]
	}
	return list
}

func tellDecl(d api.Decl) string { return declTelling(d, false) }

func declTelling(d api.Decl, room bool) string {
	all := []string{d.Name, telling(d.Under, room)}
	for _, c := range shown(d.Params, room) {
		all = append(all, "["+telling(c, room)+"]")
	}
	for _, m := range shown(d.Methods, room) {
		all = append(all, fmt.Sprintf("%q %v %s", m.Name, m.Ptr, telling(m.Sig, room)))
	}
	return strings.Join(all, "; ")
}

func tellDecls(all []api.Decl) string {
	var told []string
	for _, d := range all {
		told = append(told, fmt.Sprintf("%.300s", tellDecl(d)))
	}
	return fmt.Sprintf("%.900q", told)
}

func tellParams(all []api.Var) string {
	var told []string
	for _, p := range all {
		told = append(told, p.Name+" "+brief(p.Type))
	}
	return fmt.Sprintf("%.300q", told)
}
