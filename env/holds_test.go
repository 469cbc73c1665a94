package env_test

import (
	"testing"

	"sterling/api"
	"sterling/env"
)

// holding are the places where a type is held by what it stands in.
func holding() map[string]func(t api.Type) api.Type {
	return map[string]func(t api.Type) api.Type{
		"itself":        func(t api.Type) api.Type { return t },
		"array":         func(t api.Type) api.Type { return array(3, t) },
		"array of none": func(t api.Type) api.Type { return array(0, t) },
		"field":         field,
		"last field": func(t api.Type) api.Type {
			return structOf(member{name: "p", t: pointer(t)}, member{name: "_", t: integer}, member{name: "_", t: t})
		},
		"argument":             func(t api.Type) api.Type { return named("w.G", t) },
		"last argument":        func(t api.Type) api.Type { return named("w.K", integer, text, t) },
		"lost argument":        func(t api.Type) api.Type { return named("p.Lost", t) },
		"argument of argument": func(t api.Type) api.Type { return named("w.G", named("w.H", text, t)) },
		"embedded argument":    func(t api.Type) api.Type { return embedding("G", named("w.G", t)) },
		"array in a struct":    func(t api.Type) api.Type { return array(2, field(array(0, field(t)))) },
		"argument in an array": func(t api.Type) api.Type { return array(2, named("w.G", array(1, t))) },
	}
}

// parting are the places where it is not.
func parting() map[string]func(t api.Type) api.Type {
	return map[string]func(t api.Type) api.Type{
		"pointer":   pointer,
		"slice":     slice,
		"key":       func(t api.Type) api.Type { return mapOf(t, integer) },
		"element":   func(t api.Type) api.Type { return mapOf(integer, t) },
		"parameter": func(t api.Type) api.Type { return function(void(), t) },
		"result":    func(t api.Type) api.Type { return function(t, integer) },
		"method":    func(t api.Type) api.Type { return methods(member{name: "M", t: function(t, t)}) },
		"term":      func(t api.Type) api.Type { return sets(union(only(t))) },
		"tilde":     func(t api.Type) api.Type { return sets(union(only(text), tilde(t))) },
		"embedded by a pointer": func(t api.Type) api.Type {
			return embedding("G", pointer(named("w.G", t)))
		},
		"argument of a pointer": func(t api.Type) api.Type { return named("w.G", pointer(t)) },
		"argument of a slice":   func(t api.Type) api.Type { return named("p.Lost", slice(t)) },
	}
}

// others are what the places' types are of.
func others() []api.Decl { return append(world(), generic("p.Lost", 1, integer)) }

// A type that stands in itself holds itself just if it is held everywhere on the way.
func TestHoldsItself(t *testing.T) {
	self := named("p.S")
	for where, hold := range holding() {
		if where != "itself" {
			e := made(t, append(others(), decl("p.S", hold(self))), nil)
			expectUnder(t, where, e, self, mustUnder(t, e, hold(self)))
			expectHolds(t, where, e, self, false)
		}
		for inside, also := range holding() {
			if where == "itself" && inside == "itself" {
				continue
			}
			e := made(t, append(others(), decl("p.S", hold(also(self)))), nil)
			expectHolds(t, inside+" in "+where, e, self, false)
		}
		for inside, part := range parting() {
			e := made(t, append(others(), decl("p.S", hold(part(self)))), nil)
			expectHolds(t, inside+" in "+where, e, self, true)
			e = made(t, append(others(), decl("p.S", part(hold(self)))), nil)
			expectHolds(t, where+" in "+inside, e, self, true)
		}
	}
	e := made(t, append(others(), decl("p.S", embedding("S", self)), decl("q.S", embedding("S", pointer(named("q.S"))))), nil)
	expectHolds(t, "embedded", e, self, false)
	expectHolds(t, "embedded by a pointer", e, named("q.S"), true)
}

func mustUnder(t *testing.T, e *env.Env, x api.Type) api.Type {
	t.Helper()
	under, ok := e.Under(x)
	if !ok {
		t.Errorf("P13.2: Under(%s) is refused", brief(x))
	}
	return under
}

// What t is of is gone on from wherever it is held in t, and nowhere else.
func TestHoldsInside(t *testing.T) {
	e := made(t, append(others(), decl("p.S", field(named("p.S"))), decl("p.Sound", field(pointer(named("p.S"))))), nil)
	for where, hold := range holding() {
		expectHolds(t, where, e, hold(named("p.S")), false)
		expectHolds(t, where+" of what does not", e, hold(named("p.Sound")), true)
		for inside, part := range parting() {
			expectHolds(t, inside+" in "+where, e, hold(part(named("p.S"))), true)
			expectHolds(t, where+" in "+inside, e, part(hold(named("p.S"))), true)
		}
	}
	expectHolds(t, "one of two", e, structOf(member{name: "a", t: named("p.Sound")}, member{name: "b", t: named("p.S")}), false)
	expectHolds(t, "a parameter", e, param("P"), true)
	expectHolds(t, "an argument that is a parameter", e, named("w.G", param("w.G#0")), true)
}

// By other declared types.
func TestHoldsByOthers(t *testing.T) {
	a, b, c := named("p.A"), named("p.B"), named("p.C")
	for where, hold := range holding() {
		e := made(t, append(others(), decl("p.A", hold(b)), decl("p.B", field(c)), decl("p.C", array(0, a))), nil)
		for _, x := range list(a, b, c) {
			expectHolds(t, "a ring by "+where, e, x, false)
			expectHolds(t, "a slice of a ring by "+where, e, slice(x), true)
		}
		e = made(t, append(others(), decl("p.A", hold(b)), decl("p.B", field(c)), decl("p.C", integer)), nil)
		for _, x := range list(a, b, c) {
			expectHolds(t, "no ring by "+where, e, x, true)
		}
		// Both hold C: a type that is met by two ways is not in a ring by that.
		e = made(t, append(others(), decl("p.A", structOf(member{name: "a", t: hold(b)}, member{name: "b", t: hold(c)}, member{name: "c", t: hold(c)})), decl("p.B", hold(c)), decl("p.C", text)), nil)
		for _, x := range list(a, b, c, structOf(member{name: "a", t: a}, member{name: "b", t: b}, member{name: "c", t: c})) {
			expectHolds(t, "two ways by "+where, e, x, true)
		}
	}
	for where, part := range parting() {
		e := made(t, append(others(), decl("p.A", field(b)), decl("p.B", field(part(c))), decl("p.C", array(0, a))), nil)
		for _, x := range list(a, b, c) {
			expectHolds(t, "a ring by "+where, e, x, true)
		}
	}
}

// A ring that t leads to is met on a way that goes on from it, whether t is in it or not.
func TestHoldsOfRingsAhead(t *testing.T) {
	ring := append(others(), decl("p.R", field(named("p.Q"))), decl("p.Q", array(1, named("p.R"))), decl("p.L", named("p.L")), decl("p.Behind", integer))
	for where, hold := range holding() {
		for _, name := range names("p.R", "p.Q", "p.L") {
			e := made(t, append(ring, decl("p.A", hold(named("p.B"))), decl("p.B", field(hold(named(name))))), nil)
			expectHolds(t, "leads to a ring by "+where, e, named("p.A"), false)
			expectHolds(t, "leads to a ring by "+where, e, named("p.B"), false)
			expectHolds(t, "leads to a ring by "+where, e, array(2, named("p.A")), false)
			expectHolds(t, "leads to no ring", e, named("p.Behind"), true)
			expectUnder(t, "leads to a ring by "+where, e, named("p.B"), field(hold(named(name))))
		}
	}
	for where, part := range parting() {
		e := made(t, append(ring, decl("p.A", field(named("p.B"))), decl("p.B", part(named("p.R")))), nil)
		expectHolds(t, "leads to a ring by "+where, e, named("p.A"), true)
	}
	e := made(t, append(ring, decl("p.A", structOf(member{name: "a", t: named("p.R")})), decl("p.Z", structOf(member{name: "a", t: named("p.A")}, member{name: "b", t: named("p.Behind")}))), nil)
	expectHolds(t, "between rings and others", e, named("p.Z"), false)
	expectHolds(t, "a ring leads to it", made(t, decls(decl("p.R", structOf(member{name: "a", t: named("p.R")}, member{name: "b", t: named("p.B")})), decl("p.B", integer)), nil), named("p.B"), true)
}

// Generic types are gone on from as they are declared, whatever their arguments are.
func TestHoldsOfGenericTypes(t *testing.T) {
	box := func(t api.Type) api.Type { return named("p.Box", t) }
	e := made(t, append(others(),
		generic("p.Box", 1, field(param("p.Box#0"))),
		generic("p.Ring", 1, field(named("p.Ring", slice(param("p.Ring#0"))))),
		generic("p.List", 1, structOf(member{name: "value", t: param("p.List#0")}, member{name: "next", t: pointer(named("p.List", param("p.List#0")))})),
		generic("p.Tree", 1, field(slice(named("p.Tree", named("p.Tree", param("p.Tree#0")))))),
		decl("p.Own", field(box(named("p.Own")))),
		decl("p.Far", field(box(box(array(0, named("p.Far")))))),
		decl("p.Near", field(box(pointer(named("p.Near"))))),
		decl("p.Nodes", field(named("p.List", named("p.Nodes")))),
		generic("p.Swap", 2, field(named("p.Lost", named("p.Swap", param("p.Swap#1"), param("p.Swap#0"))))),
		generic("p.Chain", 1, named("p.Box", named("p.Box", param("p.Chain#0")))),
	), nil)
	for _, arg := range list(integer, box(integer), box(box(box(text))), param("P"), pointer(named("p.Own")), named("p.Near"), named("p.Chain", box(integer))) {
		expectHolds(t, "a box", e, box(arg), true)
		expectHolds(t, "a list", e, named("p.List", arg), true)
		expectHolds(t, "a tree", e, named("p.Tree", arg), true)
		expectHolds(t, "a chain", e, named("p.Chain", arg), true)
		expectHolds(t, "a ring, growing", e, named("p.Ring", arg), false)
		expectHolds(t, "a ring, by an argument", e, named("p.Swap", arg, arg), false)
		expectHolds(t, "a ring as an argument", e, box(named("p.Ring", arg)), false)
		expectHolds(t, "a ring as an argument that is lost", e, named("p.Lost", named("p.Ring", arg)), false)
		expectHolds(t, "a pointer to a ring as an argument", e, box(pointer(named("p.Ring", arg))), true)
	}
	for _, name := range names("p.Own", "p.Far", "p.Nodes") {
		expectHolds(t, "by arguments", e, named(name), false)
	}
	expectHolds(t, "by an argument behind a pointer", e, named("p.Near"), true)
}

// Constraints and methods are not held.
func TestHoldsByNothingElse(t *testing.T) {
	self := named("p.S", integer)
	e := made(t, decls(constrained("p.S", list(field(self)), integer, method("M", function(self, self)))), params(further("P", field(self))))
	expectHolds(t, "constraints and methods", e, self, true)
	expectHolds(t, "a parameter of it", e, param("P"), true)
}
