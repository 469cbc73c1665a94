package env_test

import (
	"strings"
	"testing"

	"sterling/api"
)

func TestNewOfNothing(t *testing.T) {
	for _, decls := range [][]api.Decl{nil, {}} {
		for _, params := range [][]api.Var{nil, {}} {
			e := made(t, decls, params)
			expectNames(t, "nothing", e, "comparable", "error")
			expectUnder(t, "nothing", e, named("error"), errorType)
			expectNoDecl(t, "nothing", e, "p.T")
		}
	}
	expectNames(t, "params alone", made(t, nil, params(further("P", anything))), "comparable", "error")
}

func TestNewNames(t *testing.T) {
	expectNew(t, "one", decls(decl("p.T", integer)), nil)
	expectNew(t, "two", decls(decl("p.U", integer), decl("p.T", integer)), nil)
	expectNew(t, "two of one name, of two packages", decls(decl("p.T", integer), decl("q.T", integer), decl("p~1.T", integer), decl("p/q.T", integer)), nil)
	expectNew(t, "names in small and large", decls(decl("p.T", integer), decl("p.t", integer), decl("P.T", integer)), nil)
	for why, name := range map[string]string{"empty": "", "twice": "p.T", "error": "error", "comparable": "comparable"} {
		wrong := decl(name, integer)
		other, last := decl("p.T", text), decl("z.T", text)
		if name != "p.T" {
			expectNoNew(t, why+", alone", decls(wrong), nil)
		}
		expectNoNew(t, why, decls(wrong, other), nil)
		expectNoNew(t, why, decls(other, wrong), nil)
		expectNoNew(t, why, decls(last, wrong, other), nil)
		expectNoNew(t, why, decls(other, last, decl("a.T", integer), wrong), nil)
		expectNoNew(t, why, append(world(), wrong, other), nil)
	}
	expectNoNew(t, "twice, the same", decls(decl("p.T", integer), decl("p.T", integer)), nil)
	expectNoNew(t, "twice, of other numbers of parameters", decls(decl("p.T", integer), generic("p.T", 1, integer)), nil)
	expectNoNew(t, "error, as it is", decls(decl("error", errorType)), nil)
	expectNoNew(t, "comparable, as it is", decls(decl("comparable", anything)), nil)
	expectNoNew(t, "error, generic", decls(generic("error", 1, integer)), nil)
	expectNew(t, "error and comparable in packages", decls(decl("p.error", integer), decl("p.comparable", integer), decl("error.error", integer)), nil)
}

// Under is of each kind that there is, but of KNone and KParam.
func TestNewUnder(t *testing.T) {
	for _, kind := range kinds() {
		if kind != api.KParam {
			expectNew(t, "a kind", append(world(), decl("p.T", plain(kind))), nil)
		}
	}
	for _, x := range bare() {
		expectNew(t, "what stands in no others", decls(decl("p.T", x)), nil)
	}
	expectNoNew(t, "nothing", decls(decl("p.T", api.Type{})), nil)
	expectNoNew(t, "nothing, behind another", append(world(), decl("p.T", api.Type{})), nil)
	expectNoNew(t, "its own parameter", decls(generic("p.T", 1, param("p.T#0"))), nil)
	expectNoNew(t, "its own second parameter", decls(generic("p.T", 2, param("p.T#1"))), nil)
	expectNoNew(t, "another's parameter", append(world(), decl("p.T", param("w.G#0"))), nil)
	expectNoNew(t, "a further parameter", decls(decl("p.T", param("P"))), params(further("P", anything)))
	expectNoNew(t, "no one's parameter", decls(decl("p.T", param("P"))), nil)
	expectNew(t, "another declared type", decls(decl("p.T", named("p.U")), decl("p.U", integer)), nil)
	expectNew(t, "error", decls(decl("p.T", named("error")), decl("p.U", named("comparable"))), nil)
	expectNew(t, "itself", decls(decl("p.T", named("p.T"))), nil)
	expectNew(t, "as great as may be", decls(decl("p.T", great(api.MaxSize)), decl("p.U", nested(integer, api.MaxDepth-1))), nil)
}

// Constraints are of each kind, parameters too, but of KNone.
func TestNewConstraints(t *testing.T) {
	for _, kind := range kinds() {
		x := plain(kind)
		expectNew(t, "a params' constraint of a kind", world(), params(further("Q", x)))
		if kind != api.KParam {
			expectNew(t, "a constraint of a kind", append(world(), constrained("p.T", list(x), integer), constrained("p.U", list(anything, x), integer)), nil)
		}
	}
	for _, x := range bare() {
		expectNew(t, "what stands in no others", decls(constrained("p.T", list(x), integer)), params(further("P", x)))
	}
	expectNew(t, "its own parameters", decls(constrained("p.T", list(param("p.T#0")), integer), constrained("p.U", list(param("p.U#1"), param("p.U#0")), integer)), nil)
	expectNew(t, "as great as may be", decls(constrained("p.T", list(great(api.MaxSize), nested(integer, api.MaxDepth-1)), integer)), params(further("P", great(api.MaxSize))))
	expectNoNew(t, "nothing", decls(constrained("p.T", list(api.Type{}), integer)), nil)
	expectNoNew(t, "nothing at last", decls(constrained("p.T", list(anything, api.Type{}), integer)), nil)
	expectNoNew(t, "nothing in params", nil, params(further("P", api.Type{})))
	expectNoNew(t, "nothing in params at last", nil, params(further("P", anything), further("Q", api.Type{})))
}

// A Sig is a KFunc, and nothing that stands for one.
func TestNewSigs(t *testing.T) {
	stands := decl("p.F", nullary)
	for _, kind := range kinds() {
		with := append(world(), stands, decl("p.T", integer, method("A", nullary), method("M", plain(kind))))
		if kind == api.KFunc {
			expectNew(t, "a function", with, nil)
		} else {
			expectNoNew(t, "a Sig of another kind", with, nil)
		}
	}
	for _, x := range append(bare(), api.Type{}, pointer(nullary), named("p.F"), named("error"), slice(nullary)) {
		expectNoNew(t, "a Sig that is no function", decls(stands, decl("p.T", integer, method("M", x))), nil)
		expectNoNew(t, "a Sig that is no function, at first", decls(stands, decl("p.T", integer, method("M", x), method("A", nullary))), nil)
	}
	expectNoNew(t, "a parameter", decls(generic("p.T", 1, integer, method("M", param("p.T#0")))), nil)
	expectNew(t, "as great as may be", decls(decl("p.T", integer, method("M", great(api.MaxSize)))), nil)
	expectNew(t, "a pointer's", decls(decl("p.T", integer, api.Method{Name: "M", Ptr: true, Sig: nullary})), nil)
}

// What may not be is refused wherever it stands.
func TestNewOfTypesThatMayNotBe(t *testing.T) {
	for why, wrong := range refusedTypes() {
		for where, slot := range slots() {
			decls, params := slot(wrong)
			expectNoNew(t, why+" as "+where, decls, params)
			for inside, place := range places() {
				decls, params := slot(place(wrong))
				expectNoNew(t, why+" as "+inside+" in "+where, decls, params)
			}
		}
		expectNoNew(t, why+" as a Sig", decls(decl("p.T", integer, method("M", wrong))), nil)
	}
	for where, slot := range slots() {
		for _, x := range bare() {
			for inside, place := range places() {
				if x.Kind == api.KVoid && strings.Contains(inside, "result") {
					continue
				}
				decls, params := slot(place(x))
				expectNoNew(t, "what stands in no others, as "+inside+" in "+where, decls, params)
			}
		}
	}
}

// Declared types are there, with as many arguments as they have parameters, wherever they stand.
func TestNewOfDeclaredTypes(t *testing.T) {
	right := map[string]api.Type{
		"none": named("w.T"), "one": named("w.G", integer), "two": named("w.H", integer, text), "error": named("error"), "comparable": named("comparable"),
		"one in one": named("w.G", named("w.G", named("w.T"))),
	}
	wrong := map[string]api.Type{
		"not there": named("w.X"), "not there, with an argument": named("w.X", integer), "of another package": named("v.T"), "of a function": named("w~1.T"),
		"one too many": named("w.T", integer), "one too few": named("w.G"), "two for one": named("w.G", integer, integer), "one for two": named("w.H", integer),
		"three for two": named("w.H", integer, text, integer), "error with an argument": named("error", integer), "comparable with an argument": named("comparable", integer),
		"wrong inside": named("w.G", named("w.X")), "wrong inside, at last": named("w.H", named("w.T"), named("w.H", integer, named("w.G"))),
	}
	for where, slot := range slots() {
		for why, x := range right {
			decls, params := slot(x)
			expectNew(t, why+" as "+where, decls, params)
			for inside, place := range places() {
				decls, params := slot(place(x))
				expectNew(t, why+" as "+inside+" in "+where, decls, params)
			}
		}
		for why, x := range wrong {
			decls, params := slot(x)
			expectNoNew(t, why+" as "+where, decls, params)
			for inside, place := range places() {
				decls, params := slot(place(x))
				expectNoNew(t, why+" as "+inside+" in "+where, decls, params)
				decls, params = slot(slice(place(mapOf(integer, place(x)))))
				expectNoNew(t, why+" as "+inside+", twice, in "+where, decls, params)
			}
		}
	}
}

// Declarations name one another in whatever order they stand.
func TestNewOfDeclarationsThatNameOneAnother(t *testing.T) {
	a := constrained("p.A", list(named("p.C", named("p.B"))), field(named("p.B")), method("M", function(named("p.C", param("p.A#0")), named("p.A", named("p.B")))))
	b := decl("p.B", named("p.A", integer), method("M", function(named("p.B"))))
	c := generic("p.C", 1, pointer(named("p.C", named("p.C", param("p.C#0")))))
	for _, all := range [][]api.Decl{{a, b, c}, {a, c, b}, {b, a, c}, {b, c, a}, {c, a, b}, {c, b, a}} {
		expectNew(t, "all", all, params(further("P", named("p.C", named("p.B")))))
		expectNoNew(t, "one left out", all[:2], nil)
		expectNoNew(t, "one left out", all[1:], nil)
	}
	expectNew(t, "itself in all places", decls(constrained("p.T", list(named("p.T", named("p.T", param("p.T#0")))), array(2, named("p.T", integer)), method("M", function(named("p.T", param("p.T#0")))))), nil)
	expectNoNew(t, "itself without arguments", decls(generic("p.T", 1, slice(named("p.T")))), nil)
	expectNoNew(t, "itself with arguments", decls(decl("p.T", slice(named("p.T", integer)))), nil)
}

func TestNewMethods(t *testing.T) {
	for _, name := range names("M", "m", "_", "_a", "a1", "A_0", "Error", "func", "type", "range", "int", "error", strings.Repeat("m", 1000)) {
		expectNew(t, "a method", decls(decl("p.T", integer, method(name, nullary))), nil)
		expectNew(t, "a method among others", decls(decl("p.T", integer, method("B", nullary), method(name, nullary), method("A", nullary))), nil)
		expectNoNew(t, "a method twice", decls(decl("p.T", integer, method(name, nullary), method(name, nullary))), nil)
		expectNoNew(t, "a method twice, apart", decls(decl("p.T", integer, method(name, nullary), method("B", nullary), method("A", nullary), api.Method{Name: name, Ptr: true, Sig: function(text)})), nil)
		expectNew(t, "a method of two types", decls(decl("p.T", integer, method(name, nullary)), decl("p.U", integer, method(name, nullary))), nil)
	}
	for _, name := range names("", " ", "1", "1a", "a b", "a.b", "a-b", "a#0", "é", "aé", "a\x00", "\xff", "a\n", " a", "a ", "+", "p.T", "$a", "~a") {
		expectNoNew(t, "no name", decls(decl("p.T", integer, method(name, nullary))), nil)
		expectNoNew(t, "no name, at last", decls(decl("p.T", integer, method("A", nullary), method("B", nullary), method(name, nullary))), nil)
		expectNoNew(t, "no name, at first", decls(decl("p.U", integer), decl("p.T", integer, method(name, nullary), method("A", nullary))), nil)
	}
	expectNew(t, "a method with a field's name", decls(decl("p.T", field(integer), method("a", nullary))), nil)
}

// Parameters in a declaration are its own alone.
func TestNewOfParameters(t *testing.T) {
	others := names("P", "Q", "p.S#2", "p.S#3", "p.S#00", "p.S#01", "p.S#+0", "p.S#-0", "p.S#-1", "p.S#", "p.S", "p.S#0 ", " p.S#0", "p.S#0#0", "p.S##0", "#0", "#", "S#0", "p.s#0",
		"w.G#0", "w.H#1", "w.T#0", "p.SS#0", "p.S#0x0", "p.S#1e0", "p.S#18446744073709551616", "p.S#18446744073709551617", "p.S#9223372036854775808", "p.S#\u0660", "comparable#0", "error#0", "p.X#0")
	for where, slot := range slots() {
		isFurther := strings.Contains(where, "params")
		for inside, place := range places() {
			for _, name := range names("p.S#0", "p.S#1") {
				decls, ps := slot(place(param(name)))
				expectNew(t, name+" as "+inside+" in "+where, decls, ps)
				expectNew(t, name+" as "+inside+" in "+where+", beside params", decls, append(ps, further("Z", anything)))
			}
			for _, name := range others {
				decls, ps := slot(place(param(name)))
				if isFurther {
					expectNew(t, name+" as "+inside+" in "+where, decls, ps)
				} else {
					expectNoNew(t, name+" as "+inside+" in "+where, decls, append(ps, further("P", anything)))
				}
			}
		}
	}
	own := param("p.T#0")
	expectNoNew(t, "a parameter of none", decls(decl("p.T", slice(own))), nil)
	expectNoNew(t, "another's, the other way round", decls(generic("p.T", 1, integer), generic("p.U", 1, slice(own))), nil)
	expectNoNew(t, "its own beside another's", append(world(), generic("p.T", 1, mapOf(own, param("w.G#0")))), nil)
	expectNew(t, "ten and more", decls(generic("p.T", 12, function(void(), own, param("p.T#9"), param("p.T#10"), param("p.T#11")))), nil)
	expectNoNew(t, "one beyond ten and more", decls(generic("p.T", 12, function(void(), own, param("p.T#12")))), nil)
	expectNoNew(t, "zeros ahead of ten and more", decls(generic("p.T", 12, function(void(), own, param("p.T#010")))), nil)
}

func TestNewParams(t *testing.T) {
	for _, name := range names("P", "_", "p.T", "error", "comparable", "int", "w.T", "w.G", "1", " ", "\x00", "é", "\xff", "$1:P", strings.Repeat("P", 1000)) {
		p := further(name, anything)
		expectNew(t, "a name", world(), params(p))
		expectNew(t, "a name among others", world(), params(further("Z", integer), p, further("A", text)))
		expectNoNew(t, "a name twice", world(), params(p, p))
		expectNoNew(t, "a name twice, apart", world(), params(p, further("A", anything), further("Z", anything), further(name, integer)))
	}
	for _, name := range names("", "#", "P#", "#0", "P#0", "w.G#0", "w.T#0", "w.G#1", "w.X#0", "a#b", "##", "P#\x00") {
		wrong := further(name, anything)
		expectNoNew(t, "no name", world(), params(wrong))
		expectNoNew(t, "no name, at last", world(), params(further("P", anything), further("Q", anything), wrong))
		expectNoNew(t, "no name, at first", nil, params(wrong, further("P", anything)))
	}
	expectNew(t, "constraints of one another", nil, params(further("P", slice(param("Q"))), further("Q", mapOf(param("P"), param("Q"))), further("R", param("R"))))
	expectNew(t, "constraints of declarations' parameters", world(), params(further("P", sets(union(tilde(slice(param("w.G#0"))), only(param("w.H#1")))))))
	expectNew(t, "constraints of no one's", nil, params(further("P", named("error")), further("Q", slice(param("p.X#7"))), further("R", param("#")), further("S", param("S#"))))
}
