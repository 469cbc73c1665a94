package env_test

import (
	"fmt"
	"slices"
	"strings"
	"testing"

	"sterling/api"
	"sterling/env"
)

func TestDecl(t *testing.T) {
	all := decls(
		decl("p.T", integer),
		constrained("q.G", list(slice(param("q.G#1")), named("p.T")), mapOf(param("q.G#0"), named("q.G", integer, text)),
			api.Method{Name: "Z", Ptr: true, Sig: function(param("q.G#1"))}, method("_", nullary), method("A", function(void(), named("error"))), method("func", nullary)),
		decl("a/b~12.T", named("q.G", named("a/b~12.T"), named("p.T"))),
		decl("p.Void", void(), api.Method{Name: "A", Ptr: true, Sig: nullary}),
	)
	e := made(t, all, params(further("P", integer), further("p.X", integer)))
	for _, d := range all {
		expectDecl(t, "as it was given", e, d.Name, d)
	}
	expectDecl(t, "error", e, "error", decl("error", errorType))
	expectDecl(t, "comparable", e, "comparable", decl("comparable", anything))
	for _, name := range names("", "p", "p.", "T", "p.X", "P", "p.t", "p.TT", "p.T ", " p.T", "p.T#0", "q.G#0", "a/b.T", "a/b~1.T", "int", "any", "Error", "errors", "erro", "comparabl", "error.error", "\x00", "\xff", strings.Repeat("p", 1<<20)) {
		expectNoDecl(t, "what is not there", e, name)
	}
}

func TestConstraint(t *testing.T) {
	many := list()
	for i := range 1001 {
		many = append(many, array(i, integer))
	}
	e := made(t, decls(decl("p.T", integer), constrained("p.G", list(slice(param("p.G#0"))), integer), constrained("p.H", list(text, named("comparable")), integer), constrained("p.M", many, integer), constrained("p.Twelve", many[:12], integer)),
		params(further("P", mapOf(param("Q"), param("p.H#1"))), further("Q", named("error")), further("p.T", sets(union(tilde(integer)))), further("p.G", void())))
	expectConstraint(t, "one's own", e, "p.G#0", slice(param("p.G#0")))
	expectConstraint(t, "the first of two", e, "p.H#0", text)
	expectConstraint(t, "the last of two", e, "p.H#1", named("comparable"))
	expectConstraint(t, "a further one", e, "P", mapOf(param("Q"), param("p.H#1")))
	expectConstraint(t, "another further one", e, "Q", named("error"))
	expectConstraint(t, "a further one with a type's name", e, "p.T", sets(union(tilde(integer))))
	expectConstraint(t, "a further one with a generic type's name", e, "p.G", void())
	for i, want := range many {
		expectConstraint(t, "one of many", e, fmt.Sprintf("p.M#%d", i), want)
		if i < 12 {
			expectConstraint(t, "one of twelve", e, fmt.Sprintf("p.Twelve#%d", i), want)
		} else {
			expectNoConstraint(t, "beyond twelve", e, fmt.Sprintf("p.Twelve#%d", i))
		}
		expectNoConstraint(t, "zeros ahead", e, fmt.Sprintf("p.M#0%d", i))
		expectNoConstraint(t, "zeros ahead", e, fmt.Sprintf("p.M#00%d", i))
		expectNoConstraint(t, "a sign", e, fmt.Sprintf("p.M#+%d", i))
		expectNoConstraint(t, "a sign", e, fmt.Sprintf("p.M#-%d", i))
		expectNoConstraint(t, "a blank", e, fmt.Sprintf("p.M#%d ", i))
		expectNoConstraint(t, "of none", e, fmt.Sprintf("p.T#%d", i))
	}
	for _, name := range names("", "#", "##", "#0", "0", "p.G#1", "p.H#2", "p.M#1001", "p.Twelve#12", "p.H#-1", "p.H#", "p.H", "p.H#a", "p.H#0x1", "p.H#1e0", "p.H#1_0", "p.M#1_0", "p.H#0#0", "p.H##0", "p.H#0#", "p.X#0", "p.g#0", "p.H#00", "p.H#01", "p.H #0",
		"p.H# 0", "p.H#\u0661", "p.H#18446744073709551616", "p.H#18446744073709551617", "p.H#9223372036854775807", "p.H#9223372036854775808", "p.H#-9223372036854775808", "p.H#4294967296", "p", "q", "PP", "P#0", "Q#0", "error", "error#0", "comparable#0", "int", "any",
		"\x00", "\xff", "p.H#"+strings.Repeat("0", 1<<20), "p.H#"+strings.Repeat("9", 1<<20)) {
		expectNoConstraint(t, "what is not there", e, name)
	}
}

// A declaration's name may itself be as that of a parameter: what stands behind the last mark is the number.
func TestConstraintOfMarkedNames(t *testing.T) {
	e := made(t, decls(constrained("p.G", list(integer, text), integer), constrained("p.G#0", list(slice(integer), slice(text)), integer)), nil)
	expectConstraint(t, "of one", e, "p.G#0", integer)
	expectConstraint(t, "of one", e, "p.G#1", text)
	expectConstraint(t, "of the other", e, "p.G#0#0", slice(integer))
	expectConstraint(t, "of the other", e, "p.G#0#1", slice(text))
	expectNoConstraint(t, "of none", e, "p.G#1#0")
	expectNoConstraint(t, "of none", e, "p.G#0#2")
}

func TestNames(t *testing.T) {
	given := names("p.T", "z.T", "a.T", "a.B", "a/b.T", "a~2.T", "a~10.T", "Z.T", "comparable.T", "comparabl.T", "error.T", "err.T", "p.a", "p.Z", "p.TT", "p._")
	var all []api.Decl
	for _, name := range given {
		all = append(all, decl(name, integer))
	}
	want := append(names("comparable", "error"), given...)
	slices.Sort(want)
	for range all {
		expectNames(t, "in whatever order they are given", made(t, all, params(further("P", integer), further("p.X", integer))), want...)
		all = append(all[1:], all[0])
	}
	slices.Reverse(all)
	expectNames(t, "the other way round", made(t, all, nil), want...)
	expectNames(t, "one", made(t, all[:1], nil), slices.Sorted(slices.Values(names("comparable", "error", all[0].Name)))...)
	expectNames(t, "by bytes", made(t, decls(decl("p.\xff", integer), decl("p.é", integer), decl("p.z", integer), decl("p.\x00", integer)), nil), "comparable", "error", "p.\x00", "p.z", "p.é", "p.\xff")
}

// A nil Env, and one that New did not make, know error and comparable.
func TestBareEnv(t *testing.T) {
	var none *env.Env
	refused, _ := env.New(decls(decl("", integer)), nil)
	for why, e := range map[string]*env.Env{"nil": none, "zero": {}, "refused": refused, "new of nothing": made(t, nil, nil)} {
		expectNames(t, why, e, "comparable", "error")
		expectDecl(t, why, e, "error", decl("error", errorType))
		expectDecl(t, why, e, "comparable", decl("comparable", anything))
		expectNoDecl(t, why, e, "p.T")
		expectNoDecl(t, why, e, "")
		for _, name := range names("", "P", "p.T#0", "error#0", "comparable#0", "#0", "error") {
			expectNoConstraint(t, why, e, name)
		}
		for x, want := range map[string]api.Type{"error": errorType, "comparable": anything} {
			expectUnder(t, why, e, named(x), want)
			expectHolds(t, why, e, named(x), true)
			expectNoUnder(t, why, e, named(x, integer))
			expectNoUnder(t, why, e, slice(named(x, integer)))
			expectUnder(t, why, e, embedding(x, named(x)), embedding(x, named(x)))
			expectHolds(t, why, e, embedding(x, named(x)), true)
		}
		for _, kind := range kinds() {
			if x := plain(kind); kind != api.KNamed && kind != api.KStruct {
				expectUnder(t, why, e, x, x)
				expectHolds(t, why, e, x, true)
			}
		}
		for _, x := range list(named("p.T"), slice(named("p.T")), plain(api.KStruct), plain(api.KNamed), api.Type{}, slice(void())) {
			expectNoUnder(t, why, e, x)
		}
	}
}
