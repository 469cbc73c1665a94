package env_test

import (
	"fmt"
	"testing"

	"sterling/api"
	"sterling/env"
)

func TestUnderOfOtherKinds(t *testing.T) {
	e := made(t, world(), params(further("P", slice(integer)), further("Q", named("w.T"))))
	for _, kind := range kinds() {
		x := plain(kind)
		if kind == api.KNamed {
			continue
		}
		expectUnder(t, "itself", e, x, x)
		expectHolds(t, "itself", e, x, true)
	}
	for _, x := range append(bare(), param("Q"), param("w.G#0"), param("w.G#1"), param("of.no#one"), anything) {
		expectUnder(t, "itself", e, x, x)
		expectHolds(t, "itself", e, x, true)
	}
	for where, place := range places() {
		for _, inner := range list(named("w.T"), named("w.G", named("w.T")), param("P"), named("error")) {
			if x := place(inner); x.Kind != api.KNamed {
				expectUnder(t, where, e, x, x)
				expectHolds(t, where, e, x, true)
			}
		}
	}
}

func TestUnderOfDeclaredTypes(t *testing.T) {
	all := world()
	for i, kind := range kinds() {
		if kind != api.KParam && kind != api.KNamed {
			all = append(all, decl(fmt.Sprintf("p.K%d", i), plain(kind)), decl(fmt.Sprintf("p.L%d", i), named(fmt.Sprintf("p.K%d", i))))
		}
	}
	e := made(t, all, nil)
	for i, kind := range kinds() {
		if kind != api.KParam && kind != api.KNamed {
			expectUnder(t, "a kind", e, named(fmt.Sprintf("p.K%d", i)), plain(kind))
			expectUnder(t, "a kind, by another", e, named(fmt.Sprintf("p.L%d", i)), plain(kind))
			expectHolds(t, "a kind", e, named(fmt.Sprintf("p.K%d", i)), true)
			expectHolds(t, "a kind, by another", e, named(fmt.Sprintf("p.L%d", i)), true)
		}
	}
	expectUnder(t, "error", e, named("error"), errorType)
	expectUnder(t, "comparable", e, named("comparable"), anything)
	expectUnder(t, "what is inside stays", made(t, decls(decl("p.A", slice(named("p.B"))), decl("p.B", integer)), nil), named("p.A"), slice(named("p.B")))
	expectUnder(t, "itself inside stays", made(t, decls(decl("p.A", pointer(named("p.A")))), nil), named("p.A"), pointer(named("p.A")))
	expectUnder(t, "error, by another", made(t, decls(decl("p.A", named("error")), decl("p.B", named("comparable"))), nil), named("p.A"), errorType)
	expectUnder(t, "comparable, by another", made(t, decls(decl("p.A", named("error")), decl("p.B", named("comparable"))), nil), named("p.B"), anything)
}

// chain stands each for the next, the last for under.
func chain(count int, under api.Type) []api.Decl {
	var all []api.Decl
	for i := range count {
		next := named(fmt.Sprintf("p.C%d", i+1))
		if i == count-1 {
			next = under
		}
		all = append(all, decl(fmt.Sprintf("p.C%d", i), next))
	}
	return all
}

func TestUnderOfChainsAndRings(t *testing.T) {
	for _, count := range []int{1, 2, 3, 10, 300, 20000} {
		straight := made(t, chain(count, slice(named("p.C0"))), nil)
		ring := made(t, chain(count, named("p.C0")), nil)
		tail := made(t, chain(count, named(fmt.Sprintf("p.C%d", count-1))), nil)
		for i := 0; i < count; i += count/3 + 1 {
			x := named(fmt.Sprintf("p.C%d", i))
			expectUnder(t, "a chain", straight, x, slice(named("p.C0")))
			expectHolds(t, "a chain", straight, x, true)
			expectNoUnder(t, "a ring", ring, x)
			expectNoUnder(t, "a ring at the end", tail, x)
			for _, e := range []*env.Env{ring, tail} {
				expectUnder(t, "a slice of a ring", e, slice(x), slice(x))
				expectHolds(t, "a slice of a ring", e, slice(x), true)
				expectUnder(t, "an array of a ring", e, array(1, x), array(1, x))
				expectHolds(t, "an array of a ring", e, array(1, x), false)
			}
		}
	}
}

func TestUnderOfGenericTypes(t *testing.T) {
	own := func(i int) api.Type { return param(fmt.Sprintf("p.G#%d", i)) }
	e := made(t, append(world(),
		generic("p.G", 12, function(own(11), own(0), mapOf(own(10), own(1)), own(0))),
		generic("p.None", 1, slice(integer)),
		generic("p.Turn", 2, named("w.H", param("p.Turn#1"), param("p.Turn#0"))),
		generic("p.Grow", 1, named("p.Turn", slice(param("p.Grow#0")), named("w.G", param("p.Grow#0")))),
		decl("p.Full", named("p.Grow", named("p.Full"))),
		constrained("p.Bound", list(sets(union(tilde(integer)))), both(methods(member{name: "M", t: function(param("p.Bound#0"))}), union(only(param("p.Bound#0")), tilde(slice(param("p.Bound#0")))))),
	), nil)
	many := list()
	for i := range 12 {
		many = append(many, array(i, integer))
	}
	expectUnder(t, "twelve arguments", e, named("p.G", many...), function(many[11], many[0], mapOf(many[10], many[1]), many[0]))
	for _, arg := range list(integer, named("w.T"), param("P"), param("w.G#0"), param("p.Turn#0"), param("p.Grow#0"), slice(param("p.Turn#1")), named("p.Grow", param("p.Grow#0")), named("w.G", named("w.G", integer)), plain(api.KInterface)) {
		expectUnder(t, "none", e, named("p.None", arg), slice(integer))
		expectUnder(t, "one", e, named("w.G", arg), slice(arg))
		expectUnder(t, "two", e, named("w.H", arg, integer), mapOf(arg, integer))
		expectUnder(t, "two", e, named("w.H", integer, arg), mapOf(integer, arg))
		expectUnder(t, "turned", e, named("p.Turn", arg, text), mapOf(text, arg))
		expectUnder(t, "turned, with parameters of its own", e, named("p.Turn", param("p.Turn#1"), arg), mapOf(arg, param("p.Turn#1")))
		expectUnder(t, "two steps", e, named("p.Grow", arg), mapOf(named("w.G", arg), slice(arg)))
		expectUnder(t, "methods and terms", e, named("p.Bound", arg), both(methods(member{name: "M", t: function(arg)}), union(only(arg), tilde(slice(arg)))))
		expectHolds(t, "two steps", e, named("p.Grow", arg), true)
	}
	expectUnder(t, "three steps", e, named("p.Full"), mapOf(named("w.G", named("p.Full")), slice(named("p.Full"))))
}

// Only the names that are gone through count, not those in arguments.
func TestUnderMeetsNamesTwice(t *testing.T) {
	own := param("p.A#0")
	e := made(t, append(world(),
		generic("p.A", 1, named("p.B", own, named("p.A", own))),
		generic("p.B", 2, named("w.G", named("p.B", param("p.B#1"), param("p.B#0")))),
		generic("p.Ring", 1, named("p.Ring", slice(param("p.Ring#0")))),
		generic("p.Less", 1, named("p.Less", integer)),
		generic("p.There", 1, named("p.Back", pointer(param("p.There#0")), text)),
		generic("p.Back", 2, named("p.There", integer)),
		decl("p.Lead", named("p.There", named("w.T"))),
		generic("p.Box", 1, field(param("p.Box#0"))),
	), nil)
	expectUnder(t, "in arguments", e, named("p.A", integer), slice(named("p.B", named("p.A", integer), integer)))
	expectUnder(t, "in arguments", e, named("p.A", named("p.A", named("p.A", integer))), slice(named("p.B", named("p.A", named("p.A", named("p.A", integer))), named("p.A", named("p.A", integer)))))
	expectUnder(t, "in one's own arguments", e, named("p.Box", named("p.Box", integer)), field(named("p.Box", integer)))
	expectHolds(t, "in one's own arguments", e, named("p.Box", named("p.Box", integer)), true)
	for _, x := range list(named("p.Ring", integer), named("p.Less", integer), named("p.Less", text), named("p.There", integer), named("p.Back", integer, text), named("p.Lead"), named("p.Ring", named("p.Box", text))) {
		expectNoUnder(t, "twice", e, x)
		expectUnder(t, "inside", e, pointer(x), pointer(x))
		expectUnder(t, "an argument", e, named("p.Box", x), field(x))
		expectHolds(t, "an argument", e, named("p.Box", x), false)
		expectHolds(t, "a pointer as an argument", e, named("p.Box", pointer(x)), true)
	}
}

func TestUnderOfUnknownTypes(t *testing.T) {
	e := made(t, append(world(), generic("p.None", 1, integer)), params(further("p.P", anything)))
	wrong := list(named("w.X"), named("p.P"), named("w.X", integer), named("w.T", integer), named("w.G"), named("w.G", integer, text), named("w.H", integer), named("error", text), named("comparable", text), named("v.T"), named("w~1.T"))
	for _, x := range wrong {
		expectNoUnder(t, "unknown", e, x)
		expectNoUnder(t, "unknown, where it is not asked for", e, named("p.None", x))
		for where, place := range places() {
			expectNoUnder(t, "unknown as "+where, e, place(x))
			expectNoUnder(t, "unknown as "+where+", twice", e, place(slice(place(x))))
			expectNoUnder(t, "unknown as "+where+", where it is not asked for", e, named("p.None", place(x)))
		}
	}
	for why, x := range refusedTypes() {
		expectNoUnder(t, why, e, x)
		for where, place := range places() {
			expectNoUnder(t, why+" as "+where, e, place(x))
		}
	}
	for _, x := range bare() {
		expectNoUnder(t, "what stands in no others", e, slice(x))
		expectNoUnder(t, "what stands in no others", e, named("w.G", x))
		expectNoUnder(t, "what stands in no others", e, named("p.None", x))
	}
}
