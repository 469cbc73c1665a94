package assign_test

import (
	"fmt"
	"strings"
	"testing"

	"sterling/api"
	"sterling/assign"
)

// nest puts t that many times into what put makes.
func nest(t api.Type, times int, put func(api.Type) api.Type) api.Type {
	for range times {
		t = put(t)
	}
	return t
}

// Types as deep as they may be, and one more.
func TestDepth(t *testing.T) {
	e := made(t, []api.Decl{{Name: "p.I", Under: integer}, {Name: "p.D", Under: nest(integer, api.MaxDepth-1, pointer)}, {Name: "p.E", Under: nest(integer, api.MaxDepth-1, slice)}})
	deep, other := nest(integer, api.MaxDepth-1, pointer), nest(named("p.I"), api.MaxDepth-1, pointer)
	if !assign.May(e, none, deep, deep) || !assign.May(e, none, deep, named("p.D")) || assign.May(e, none, deep, other) || assign.Converts(e, none, deep, other) || !assign.Compares(e, deep, named("p.D"), false) {
		t.Error("P16.1: deep pointers")
	}
	lists := nest(integer, api.MaxDepth-1, slice)
	if !assign.May(e, none, lists, named("p.E")) || !assign.Compares(e, lists, of(api.KNil), false) || assign.Compares(e, lists, lists, false) {
		t.Error("P16.1: deep slices")
	}
	if deeper := pointer(deep); assign.May(e, none, deeper, deeper) || assign.Converts(e, none, deeper, anything) || assign.Compares(e, deeper, deeper, false) {
		t.Error("P16.1: a pointer that is too deep")
	}
}

// Declared types that stand for one another, in long chains: all have the type beneath the last one beneath them.
func TestLongChains(t *testing.T) {
	const most = 5000
	decls := []api.Decl{{Name: "p.L0", Under: slice(integer)}, {Name: "p.U0", Under: basic("uint8")}, {Name: "p.S0", Under: api.Type{Kind: api.KStruct, Names: []string{"a"}, Emb: []bool{false}, Args: []api.Type{integer}}}}
	for i := 1; i < most; i++ {
		for _, name := range []string{"p.L", "p.U", "p.S"} {
			decls = append(decls, api.Decl{Name: fmt.Sprint(name, i), Under: named(fmt.Sprint(name, i-1))})
		}
	}
	e := made(t, decls)
	last := func(name string) api.Type { return named(fmt.Sprint(name, most-1)) }
	switch {
	case !assign.May(e, none, slice(integer), last("p.L")), !assign.May(e, none, last("p.L"), slice(integer)), assign.May(e, none, named("p.L0"), last("p.L")):
		t.Error("P16.1: a long chain")
	case !assign.Converts(e, none, named("p.L0"), last("p.L")), !assign.Converts(e, none, text, slice(last("p.U"))), !assign.Converts(e, none, pointer(named("p.S0")), pointer(last("p.S"))), assign.Converts(e, none, last("p.L"), last("p.S")):
		t.Error("P16.2: a long chain is not converted")
	case !assign.May(e, literal(t, "255"), untyped("int"), last("p.U")), assign.May(e, literal(t, "256"), untyped("int"), last("p.U")):
		t.Error("P16.1: a constant at the end of a long chain")
	case !assign.Compares(e, last("p.U"), last("p.U"), true), !assign.Compares(e, last("p.S"), last("p.S"), false), assign.Compares(e, last("p.L"), last("p.L"), false):
		t.Error("P16.2: a long chain is not compared")
	}
}

// Sets of thousands of types, each held against each.
func TestGreatSets(t *testing.T) {
	const most = 4000
	var decls []api.Decl
	var ints, uints, lists []api.Type
	for i := range most {
		a, b, c := fmt.Sprint("p.I", i), fmt.Sprint("p.U", i), fmt.Sprint("p.L", i)
		decls = append(decls, api.Decl{Name: a, Under: integer}, api.Decl{Name: b, Under: basic("uint8")}, api.Decl{Name: c, Under: slice(integer)})
		ints, uints, lists = append(ints, named(a)), append(uints, named(b)), append(lists, named(c))
	}
	odd := append(append([]api.Type{}, uints[:most-1]...), text)
	e := made(t, decls, api.Var{Name: "I", Type: unionOf(ints...)}, api.Var{Name: "U", Type: unionOf(uints...)}, api.Var{Name: "L", Type: unionOf(lists...)}, api.Var{Name: "O", Type: unionOf(odd...)})
	five := literal(t, "5")
	for i, is := range []bool{
		assign.Converts(e, none, param("I"), param("U")), assign.Converts(e, none, param("U"), param("I")), assign.Converts(e, none, param("L"), named("p.L7")), assign.May(e, none, slice(integer), param("L")),
		assign.May(e, none, param("L"), slice(integer)), assign.May(e, five, untyped("int"), param("U")), assign.Converts(e, five, integer, param("U")), assign.Compares(e, param("I"), param("I"), true),
		!assign.Converts(e, none, param("I"), param("O")), !assign.Converts(e, none, param("I"), param("L")), !assign.May(e, five, untyped("int"), param("O")), !assign.May(e, none, param("I"), param("U")), !assign.Compares(e, param("L"), param("L"), false),
	} {
		if !is {
			t.Errorf("P16.1, P16.2: a great set, %d", i)
		}
	}
}

// A long constant is held against many types.
func TestLongConstants(t *testing.T) {
	var decls []api.Decl
	var all []api.Type
	for i := range 2000 {
		name := fmt.Sprint("p.F", i)
		decls, all = append(decls, api.Decl{Name: name, Under: basic("float64")}), append(all, named(name))
	}
	e := made(t, decls, api.Var{Name: "F", Type: unionOf(all...)}, api.Var{Name: "G", Type: unionOf(append(all, integer)...)})
	long := literal(t, "0."+strings.Repeat("123456789", 200))
	if !assign.May(e, long, untyped("float"), param("F")) || assign.May(e, long, untyped("float"), param("G")) || !assign.Converts(e, long, basic("float64"), param("F")) || assign.Converts(e, long, basic("float64"), param("G")) {
		t.Error("P16.1: a long fraction")
	}
	words := literal(t, `"`+strings.Repeat("a", api.MaxText)+`"`)
	if !assign.May(e, words, untyped("string"), text) || !assign.Converts(e, words, untyped("string"), slice(basic("uint8"))) || assign.May(e, words, untyped("string"), param("F")) {
		t.Error("P16.1: a long string")
	}
}

// Constraints that lead to one another, in a line and round: none of them names types, but at the end.
func TestChainsOfTypeParameters(t *testing.T) {
	const most = 3000
	var line, ring []api.Var
	for i := range most {
		line = append(line, api.Var{Name: fmt.Sprint("L", i), Type: param(fmt.Sprint("L", i+1))})
		ring = append(ring, api.Var{Name: fmt.Sprint("R", i), Type: param(fmt.Sprint("R", (i+1)%most))})
	}
	line = append(line, api.Var{Name: fmt.Sprint("L", most), Type: unionOf(slice(integer))})
	e := made(t, nil, append(line, ring...)...)
	if !assign.May(e, none, slice(integer), param("L0")) || !assign.May(e, none, param("L0"), slice(integer)) || assign.May(e, none, param("L0"), param("L1")) || !assign.Converts(e, none, param("L0"), param("L1")) {
		t.Error("P16.1: a line of type parameters")
	}
	if assign.May(e, none, slice(integer), param("R0")) || assign.Converts(e, none, param("R0"), param("R1")) || !assign.May(e, none, param("R0"), param("R0")) || assign.Compares(e, param("R0"), param("R0"), true) || assign.May(e, literal(t, "5"), untyped("int"), param("R1")) {
		t.Error("P16.1: a ring of type parameters")
	}
}

// A type parameter among other terms stands for its own types, all of them.
func TestTypeParametersAsTerms(t *testing.T) {
	five := literal(t, "5")
	e := made(t, nil, api.Var{Name: "All", Type: anything}, api.Var{Name: "Ints", Type: unionOf(integer, basic("uint8"))}, api.Var{Name: "Texts", Type: unionOf(text)},
		api.Var{Name: "WithAll", Type: unionOf(integer, param("All"))}, api.Var{Name: "WithInts", Type: unionOf(integer, param("Ints"))}, api.Var{Name: "WithTexts", Type: unionOf(integer, param("Texts"))}, api.Var{Name: "Self", Type: unionOf(integer, param("Self"))})
	for name, want := range map[string]bool{"WithAll": false, "WithInts": true, "WithTexts": false, "Self": true} {
		x := param(name)
		if assign.May(e, five, untyped("int"), x) != want || assign.Converts(e, none, basic("float64"), x) != want || assign.Converts(e, none, x, integer) != want {
			t.Errorf("P16.1, P16.2: of %s not all types are asked", name)
		}
	}
}

// Interfaces of thousands of methods.
func TestManyMethods(t *testing.T) {
	face := of(api.KInterface)
	var methods []api.Method
	for i := range 2000 {
		name, sig := fmt.Sprintf("M%04d", i), api.Type{Kind: api.KFunc, Args: []api.Type{of(api.KVoid)}}
		face.Names, face.Args = append(face.Names, name), append(face.Args, sig)
		methods = append(methods, api.Method{Name: name, Ptr: i == 1999, Sig: sig})
	}
	face.Args = face.Args[:len(face.Names)]
	small := face
	small.Names, small.Args = face.Names[:1999], face.Args[:1999]
	e := made(t, []api.Decl{{Name: "p.I", Under: integer, Methods: methods}, {Name: "p.F", Under: small}})
	if assign.May(e, none, named("p.I"), face) || !assign.May(e, none, pointer(named("p.I")), face) || !assign.May(e, none, named("p.I"), named("p.F")) || !assign.Compares(e, named("p.I"), named("p.F"), false) || !assign.Compares(e, face, named("p.F"), false) || assign.May(e, none, small, face) {
		t.Error("P16.1: many methods")
	}
}
