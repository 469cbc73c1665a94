package subst_test

import (
	"fmt"
	"slices"
	"strings"
	"testing"

	"sterling/api"
	"sterling/subst"
)

// What types are built of, by hand.

func basic(name string) api.Type { return api.Type{Kind: api.KBasic, Name: name} }

func named(name string, args ...api.Type) api.Type {
	return api.Type{Kind: api.KNamed, Name: name, Args: args}
}

func param(name string) api.Type { return api.Type{Kind: api.KParam, Name: name} }

func untyped(name string) api.Type { return api.Type{Kind: api.KUntyped, Name: name} }

func of(kind int, args ...api.Type) api.Type { return api.Type{Kind: kind, Args: args} }

func array(length int, element api.Type) api.Type {
	return api.Type{Kind: api.KArray, Len: length, Args: []api.Type{element}}
}

func slice(element api.Type) api.Type { return of(api.KSlice, element) }

func pointer(element api.Type) api.Type { return of(api.KPointer, element) }

func mapOf(key, element api.Type) api.Type { return of(api.KMap, key, element) }

func void() api.Type { return of(api.KVoid) }

func null() api.Type { return of(api.KNil) }

func function(result api.Type, params ...api.Type) api.Type {
	args := append(append([]api.Type(nil), params...), result)
	return api.Type{Kind: api.KFunc, Len: len(params), Args: args}
}

// member is a field, or a method.
type member struct {
	name string
	t    api.Type
	emb  bool
}

func structOf(fields ...member) api.Type {
	t := api.Type{Kind: api.KStruct}
	for _, f := range fields {
		t.Names, t.Emb, t.Args = append(t.Names, f.name), append(t.Emb, f.emb), append(t.Args, f.t)
	}
	return t
}

func embedding(name string, t api.Type) api.Type {
	return structOf(member{name: name, t: t, emb: true})
}

func methods(list ...member) api.Type {
	t := api.Type{Kind: api.KInterface}
	for _, m := range list {
		t.Names, t.Args = append(t.Names, m.name), append(t.Args, m.t)
	}
	return t
}

func sets(unions ...[]api.Term) api.Type { return api.Type{Kind: api.KInterface, Sets: unions} }

func both(methods api.Type, unions ...[]api.Term) api.Type {
	methods.Sets = unions
	return methods
}

func union(terms ...api.Term) []api.Term { return terms }

func only(t api.Type) api.Term { return api.Term{Type: t} }

func tilde(t api.Type) api.Term { return api.Term{Tilde: true, Type: t} }

func list(all ...api.Type) []api.Type { return all }

func names(all ...string) []string { return all }

func repeated(t api.Type, count int) []api.Type { return slices.Repeat(list(t), count) }

var (
	integer = basic("int")
	text    = basic("string")
	p, q, r = param("P"), param("Q"), param("R")
)

// brief is what a message shows of a type.
func brief(t api.Type) string { return fmt.Sprintf("%.300s", whole(t)) }

// whole tells all of a type, but not its lists' spare room, and not whether an empty list is nil.
func whole(t api.Type) string {
	var b strings.Builder
	writeWhole(&b, t, false)
	return b.String()
}

// wholeRoom tells the spare room, too.
func wholeRoom(t api.Type) string {
	var b strings.Builder
	writeWhole(&b, t, true)
	return b.String()
}

// writeWhole stops somewhere, as there are types that hold themselves.
func writeWhole(b *strings.Builder, t api.Type, room bool) {
	if b.Len() > 1<<20 {
		b.WriteString("..")
		return
	}
	fmt.Fprintf(b, "(%d %q %d %q %v", t.Kind, t.Name, t.Len, shown(t.Names, room), shown(t.Emb, room))
	for _, arg := range shown(t.Args, room) {
		b.WriteByte(' ')
		writeWhole(b, arg, room)
	}
	for _, union := range shown(t.Sets, room) {
		b.WriteString(" {")
		for _, term := range shown(union, room) {
			fmt.Fprintf(b, "%v ", term.Tilde)
			writeWhole(b, term.Type, room)
		}
		b.WriteByte('}')
	}
	b.WriteByte(')')
}

func shown[T any](list []T, room bool) []T {
	if room {
		return list[:cap(list)]
	}
	return list
}

// expectPut asks for all fields of what comes out.
func expectPut(t *testing.T, why string, x api.Type, names []string, args []api.Type, want api.Type) {
	t.Helper()
	if got := subst.Put(x, names, args); whole(got) != whole(want) {
		t.Errorf("P12.1: %s: Put(%s, %.100q) is %s, not %s", why, brief(x), names, brief(got), brief(want))
	}
}

func expectNoPut(t *testing.T, why string, x api.Type, names []string, args []api.Type) {
	t.Helper()
	expectPut(t, why, x, names, args, api.Type{})
}

func expectFree(t *testing.T, why string, x api.Type, want ...string) {
	t.Helper()
	if got := subst.Free(x); !slices.Equal(got, want) {
		t.Errorf("P12.1: %s: Free(%s) is %.300q, not %.300q", why, brief(x), got, want)
	}
}

func expectSize(t *testing.T, why string, x api.Type, want int) {
	t.Helper()
	if got := subst.Size(x); got != want {
		t.Errorf("P12.1: %s: Size(%s) is %d, not %d", why, brief(x), got, want)
	}
}
