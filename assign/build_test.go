package assign_test

import (
	"strings"
	"testing"

	"sterling/api"
	"sterling/assign"
	"sterling/constant"
	"sterling/env"
	"sterling/types"
	"sterling/worlds"
)

// What types are built of, by hand.

func basic(name string) api.Type { return api.Type{Kind: api.KBasic, Name: name} }

func named(name string, args ...api.Type) api.Type {
	return api.Type{Kind: api.KNamed, Name: name, Args: args}
}

func param(name string) api.Type { return api.Type{Kind: api.KParam, Name: name} }

func of(kind int, args ...api.Type) api.Type { return api.Type{Kind: kind, Args: args} }

func slice(element api.Type) api.Type { return of(api.KSlice, element) }

func pointer(element api.Type) api.Type { return of(api.KPointer, element) }

func untyped(name string) api.Type { return api.Type{Kind: api.KUntyped, Name: name} }

// unionOf is an interface of one union.
func unionOf(all ...api.Type) api.Type {
	var terms []api.Term
	for _, t := range all {
		terms = append(terms, api.Term{Type: t})
	}
	return api.Type{Kind: api.KInterface, Sets: [][]api.Term{terms}}
}

var (
	integer  = basic("int")
	text     = basic("string")
	anything = api.Type{Kind: api.KInterface}
	none     = api.Const{}
)

// literal is the constant that a text says: `true`, `false`, a string's or a number's literal, perhaps with `-` ahead, or
// several of numbers with `*` between; or that of Kind CNone, if it says nothing.
func literal(t *testing.T, src string) api.Const {
	t.Helper()
	switch {
	case src == "":
		return none
	case src == "true" || src == "false":
		return api.Const{Kind: api.CBool, Bool: src == "true"}
	case src[0] == '"':
		return lit(t, api.NString, src)
	case src[0] == '-':
		c, _ := constant.Unary("-", literal(t, src[1:]))
		return c
	}
	factor, rest, isProduct := strings.Cut(src, "*")
	kind := api.NInt
	if strings.ContainsAny(factor, ".p") || strings.Contains(factor, "e") && !strings.HasPrefix(factor, "0x") {
		kind = api.NFloat
	}
	c := lit(t, kind, factor)
	if isProduct {
		c, _ = constant.Binary("*", c, literal(t, rest))
	}
	return c
}

func lit(t *testing.T, kind int, src string) api.Const {
	t.Helper()
	c, ok := constant.Lit(api.Node{Kind: kind, Text: src})
	if !ok {
		t.Fatalf("P10.1: this is no literal: %s", src)
	}
	return c
}

// typeOf is the untyped type of the constant.
func typeOf(c api.Const) api.Type {
	if name := constant.Default(c); name != "float64" {
		return untyped(name)
	}
	return untyped("float")
}

// world is what is declared, with the texts of types that may be asked of it.
type world struct{ worlds.World }

func declared(t *testing.T, src string, others ...api.Decl) world {
	t.Helper()
	w, ok := worlds.Read(src, others...)
	if !ok {
		t.Fatalf("P13.1: this can't be read, or is refused: %s", src)
	}
	return world{w}
}

func made(t *testing.T, decls []api.Decl, params ...api.Var) *env.Env {
	t.Helper()
	e, ok := env.New(decls, params)
	if !ok {
		t.Fatalf("P13.1: this is refused: %.300v", decls)
	}
	return e
}

// says is the type that a text says, in which `+` may stand for a blank. Of those that can't be written there are texts,
// too: `nil`, `void`, and `untyped+int` and its like.
func (w world) says(t *testing.T, src string) api.Type {
	t.Helper()
	src = strings.ReplaceAll(src, "+", " ")
	name, isUntyped := strings.CutPrefix(src, "untyped ")
	switch {
	case src == "nil":
		return of(api.KNil)
	case src == "void":
		return of(api.KVoid)
	case isUntyped:
		return untyped(name)
	}
	x, ok := w.Type(src)
	if !ok {
		t.Fatalf("this is no type: %s", src)
	}
	return x
}

// value is the constant and the type of a text: of a type, or of a constant, a colon, and perhaps its type.
func (w world) value(t *testing.T, src string) (api.Const, api.Type) {
	t.Helper()
	text, typed, isConstant := strings.Cut(src, ":")
	switch {
	case !isConstant:
		return none, w.says(t, src)
	case typed == "":
		c := literal(t, text)
		return c, typeOf(c)
	}
	return literal(t, text), w.says(t, typed)
}

// goes are lists of types, with blanks between: to which a value of from may be assigned (and so converted, too), to which
// it may be converted, but not assigned, and to which neither.
type goes struct{ from, may, converts, never string }

func (w world) expectGoes(t *testing.T, table []goes) {
	t.Helper()
	for _, row := range table {
		for _, from := range strings.Fields(row.from) {
			w.expectOf(t, from, row.may, true, true)
			w.expectOf(t, from, row.converts, false, true)
			w.expectOf(t, from, row.never, false, false)
		}
	}
}

func (w world) expectOf(t *testing.T, from, list string, may, converts bool) {
	t.Helper()
	c, x := w.value(t, from)
	for _, to := range strings.Fields(list) {
		y := w.says(t, to)
		if got := assign.May(w.Env, c, x, y); got != may {
			t.Errorf("P16.1: May(%s, %s) is %v", from, to, got)
		}
		if got := assign.Converts(w.Env, c, x, y); got != converts {
			t.Errorf("P16.2: Converts(%s, %s) is %v", from, to, got)
		}
	}
}

// compares are lists of types, with blanks between: with which a value of the type a may be compared by order, too, by
// whether they are the same alone, and not at all. (With `=` the type itself is meant.)
type compares struct{ a, order, same, never string }

func (w world) expectCompares(t *testing.T, table []compares) {
	t.Helper()
	for _, row := range table {
		for _, a := range strings.Fields(row.a) {
			w.expectComparesTo(t, a, row.order, true, true)
			w.expectComparesTo(t, a, row.same, true, false)
			w.expectComparesTo(t, a, row.never, false, false)
		}
	}
}

func (w world) expectComparesTo(t *testing.T, a, list string, same, order bool) {
	t.Helper()
	for _, b := range strings.Fields(list) {
		if b == "=" {
			b = a
		}
		x, y := w.says(t, a), w.says(t, b)
		w.expectComparing(t, x, y, same, order)
		w.expectComparing(t, y, x, same, order)
	}
}

func (w world) expectComparing(t *testing.T, x, y api.Type, same, order bool) {
	t.Helper()
	if got := assign.Compares(w.Env, x, y, false); got != same {
		t.Errorf("P16.2: Compares(%s, %s) by == is %v", types.Text(x), types.Text(y), got)
	}
	if got := assign.Compares(w.Env, x, y, true); got != order {
		t.Errorf("P16.2: Compares(%s, %s) by < is %v", types.Text(x), types.Text(y), got)
	}
}

// fields are what stands in a list with blanks between.
func fields(list string) []string { return strings.Fields(list) }
