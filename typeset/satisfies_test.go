package typeset_test

import (
	"testing"

	"sterling/api"
	"sterling/typeset"
)

func TestSatisfiesTerms(t *testing.T) {
	w := declared(t, `
		type My int
		type Other My
		type Words string
		type List []int
		type Num interface{~int | ~float64 | string}
		type Ints interface{~int | ~uint}
		type Both interface{Num; ~int | ~uint | string}
		type Of[A any] interface{~[]A | A}
		type Box[A any] struct{a A}
		type Never interface{int; string}
		type Loop Loop`)
	for c, x := range map[string]struct{ yes, no string }{
		"any":                          {"int string My List *int []int func() map[int]int struct{} error any Box[int] Of__0 [0]List interface{M()}", "Num comparable Loop None Never interface{int}"},
		"interface{int}":               {"int", "My Other uint string *int List any error Num interface{int}"},
		"interface{~int}":              {"int My Other", "uint string Words *My []int Box[int]"},
		"interface{My}":                {"My", "int Other *My"},
		"interface{~My}":               {"int My Other", "Words"},
		"interface{My | ~string}":      {"My string Words", "int Other []string"},
		"Num":                          {"int My Other float64 string", "Words uint float32 bool List Num any error"},
		"interface{Num}":               {"int My float64 string", "Words"},
		"Both":                         {"int My Other string", "uint float64 Words"},
		"interface{Num; Ints}":         {"int My Other", "uint float64 string"},
		"Of[int]":                      {"int []int List", "My []My [][]int"},
		"Of[List]":                     {"List []List", "[]int [][]int"},
		"interface{~struct{a int}}":    {"Box[int] struct{a+int}", "Box[My] Box[string]"},
		"interface{Box[int] | []List}": {"Box[int] []List", "Box[My] List [][]int"},
		"interface{*int | func() int | map[int]int | [2]int}": {"*int map[int]int [2]int", "*My map[int]My [3]int func()"},
		"Never": {"", "int string any bool error Never"},
		// What is no interface is the union of itself alone.
		"int":        {"int", "My uint any error interface{int}"},
		"My":         {"My", "int Other any"},
		"[]int":      {"[]int", "List []My [2]int"},
		"List":       {"List", "[]int"},
		"*My":        {"*My", "*int My"},
		"Box[int]":   {"Box[int]", "Box[My] struct{a+int}"},
		"func()":     {"func()", "int"},
		"map[int]My": {"map[int]My", "map[int]int"},
		"Loop":       {"", "Loop int"},
	} {
		w.expectSatisfies(t, true, c, words(x.yes)...)
		w.expectSatisfies(t, false, c, words(x.no)...)
	}
	w.expectSatisfies(t, true, "interface{*int | func() int}", "func() int")
	w.expectSatisfies(t, true, "[]interface{int | string}", "[]interface{string | int | int}")
	w.expectSatisfies(t, true, "struct{a int}", "struct{a int}")
	w.expectSatisfies(t, false, "struct{a int}", "Box[int]", "struct{b int}")
}

// What stands for what no variable has is asked as others are.
func TestSatisfiesOfOtherKinds(t *testing.T) {
	for _, x := range []struct {
		t, c api.Type
		want bool
	}{
		{null, anything, true}, {null, asking, true}, {null, null, true}, {null, integer, false}, {null, sets(terms(only(pointer(integer)))), false}, {null, named("error"), false},
		{void, anything, true}, {void, asking, false}, {void, void, true}, {integer, void, false}, {whole, anything, true}, {whole, asking, false}, {whole, integer, false}, {integer, whole, false},
		{integer, null, false}, {whole, whole, true}, {whole, sets(terms(tilde(integer))), false},
	} {
		if typeset.Satisfies(nil, x.t, x.c) != x.want {
			t.Errorf("P14.2: Satisfies of Kinds %d and %d is %v", x.t.Kind, x.c.Kind, !x.want)
		}
	}
}

func TestSatisfiesMethods(t *testing.T) {
	w := declared(t, `
		type My int
		func (m My) M() {}
		func (m *My) P() {}
		func (m My) N(a int) string {}
		type Same My
		type At *My
		type Face interface{M()}
		type Wide interface{Face; error; N(int) string}
		type Is[A any] interface{A; M()}
		type Clash interface{M(); interface{M() int}}
		type Box[A any] struct{a A}
		func (b Box[T]) Get() T {}
		func (b *Box[T]) Put(a T, b Box[T]) {}
		type Getter[A any] interface{Get() A}
		type Fault struct{}
		func (f *Fault) Error() string {}
		type Rows []int
		func (r Rows) Len() int {}
		type Hidden interface{M(interface{int | string})}
		type Shown struct{}
		func (s Shown) M(a interface{string | int | string}) {}`)
	for c, x := range map[string]struct{ yes, no string }{
		"Face":                          {"My *My Face Wide interface{M()}", "int Same *Same At *At **My *Face error any []My Box[My] Clash *int"},
		"interface{P()}":                {"*My interface{P()}", "My Same At"},
		"interface{M(); P()}":           {"*My", "My interface{M()} Face"},
		"interface{M(); N(int) string}": {"My *My Wide", "Face Same"},
		"interface{M(); X()}":           {"", "My *My Face"},
		"interface{N(int) string}":      {"My *My Wide", "Face"},
		"interface{N(int)}":             {"", "My *My Wide"},
		"interface{N(string) string}":   {"", "My *My Wide"},
		"interface{N(int) int}":         {"", "My *My Wide"},
		"interface{M() int}":            {"", "My *My Face Clash"},
		"error":                         {"*Fault error Wide interface{Error()string}", "Fault My Face **Fault"},
		"Wide":                          {"Wide", "My *My error Face *Fault"},
		"interface{Wide; Face}":         {"Wide", "My"},
		"Is[Face]":                      {"My Face", "Same"},
		"Is[error]":                     {"Wide", "My error Face"},
		"Clash":                         {"", "My Clash Face *My"},
		"interface{Get() int}":          {"Box[int] *Box[int] Getter[int]", "Box[My] Box[string] *Box[My] Getter[My]"},
		"Getter[My]":                    {"Box[My] *Box[My] Getter[My]", "Box[int]"},
		"Getter[Box[int]]":              {"Box[Box[int]]", "Box[int] Box[Box[My]]"},
		"interface{Put(int, Box[int])}": {"*Box[int]", "Box[int] *Box[My]"},
		"interface{Getter[int]; Put(int, Box[int])}": {"*Box[int]", "Box[int]"},
		"interface{Len() int}":                       {"Rows *Rows", "[]int"},
		"Hidden":                                     {"Shown *Shown Hidden", "My"},
	} {
		w.expectSatisfies(t, true, c, words(x.yes)...)
		w.expectSatisfies(t, false, c, words(x.no)...)
	}
}

// Methods, terms and comparable are asked together.
func TestSatisfiesAll(t *testing.T) {
	w := declared(t, `
		type My int
		func (m My) M() {}
		type Other int
		func (o Other) M(a int) {}
		type Words string
		func (w *Words) M() {}
		type List []int
		func (l List) M() {}
		type Faces [2]any
		func (f Faces) M() {}
		type Face interface{M()}
		type Num interface{~int | ~string | ~[]int | ~[2]any}
		type Keys interface{comparable; Num}
		type All interface{Keys; Face}
		type Empty interface{int; string}
		type Has interface{Num; Face}
		type Key comparable`)
	for c, x := range map[string]struct{ yes, no string }{
		"comparable":                    {"int My *List Faces struct{a+any} any error Face [0]any Key *func() interface{M()}", "List []int func() map[int]int struct{a+List} Num Keys comparable interface{comparable} [0]List"},
		"interface{comparable}":         {"int My Faces any", "List Keys"},
		"Keys":                          {"int string My Other Words Faces [2]any", "List []int *My uint any Face error"},
		"Has":                           {"My List Faces", "Other Words *My *Words int Face"},
		"All":                           {"My Faces", "List Other Words int *My Face"},
		"interface{M(); ~int}":          {"My", "Other int Faces"},
		"interface{M(); comparable}":    {"My *My *Words *List Faces Face interface{M();N()}", "List Other Words int any Has All"},
		"interface{Key; M()}":           {"List My Face", "int"},
		"interface{comparable; ~[]int}": {"", "List []int int"},
		"Key":                           {"List func() any int", "comparable"},
	} {
		w.expectSatisfies(t, true, c, words(x.yes)...)
		w.expectSatisfies(t, false, c, words(x.no)...)
	}
}

// An interface that is no constraint is in no union; one that is a constraint satisfies nothing at all.
func TestSatisfiesOfInterfaces(t *testing.T) {
	w := declared(t, `
		type Face interface{M()}
		type Wide interface{M(); N()}
		type Num interface{~int | Face}
		type Self interface{M(); Self}
		type Key comparable
		type Keys interface{M(); comparable}`)
	w.expectSatisfies(t, true, "Face", "Face", "Wide", "interface{M()}", "interface{Wide}")
	w.expectSatisfies(t, true, "any", "Face", "any", "error", "Key")
	w.expectSatisfies(t, true, "comparable", "Face", "any", "error", "Key", "interface{Wide}")
	w.expectSatisfies(t, true, "Keys", "Face", "Wide", "interface{Face}")
	w.expectSatisfies(t, false, "Wide", "Face", "any")
	w.expectSatisfies(t, false, "Keys", "any", "error", "Keys", "Key", "interface{Keys}")
	w.expectSatisfies(t, false, "Num", "Face", "Wide", "any", "Num")
	w.expectSatisfies(t, false, "interface{Face | error}", "Face", "error", "any", "Wide")
	w.expectSatisfies(t, false, "interface{~Face}", "Face", "interface{M()}")
	w.expectSatisfies(t, false, "interface{~any}", "any", "Key", "error")
	for _, c := range words("any comparable Num Face Keys Self int interface{} interface{M()} interface{Num} interface{comparable|int}") {
		w.expectSatisfies(t, false, c, "Num", "Self", "comparable", "Keys", "interface{int}", "interface{M(); int}", "interface{Self}", "interface{interface{comparable}}", "interface{int; string}")
	}
}

func TestSatisfiesOfParameters(t *testing.T) {
	w := declared(t, `
		type My int
		type Other My
		type Face interface{M()}
		type Faces struct{a any}
		type Num interface{~int | ~string | float64}
		type Is[A any] interface{A | bool}
		type Clash interface{M(); interface{M() int}}
		type Self interface{Self}
		type Of[A Num, B interface{M(); comparable}] struct{}
		func (m My) M() {}
		func further[
			A any, B Num, C ~int, D int, E My | Other, F interface{~string; int}, G comparable, H interface{M(); My}, I Face, J interface{comparable; Face; Num}, K A, L []A,
			N [2]any | int, O interface{[2]any; comparable}, P error, Q Faces, R My, S float64 | int, T ~float64, U B, V Clash, W Self, X interface{Face | int}, Y interface{[]int | int; comparable}, Z Z]() {}`)
	for c, x := range map[string]struct{ yes, no string }{
		"any":                                {"A B C D E F G H I J K L N O P Q R S T U V X Y Z Of__0 Of__1", "W"},
		"Num":                                {"B C D E F H J R S Of__0", "A G I K L N O P Q T U V X Y Z Of__1"},
		"interface{~int}":                    {"C D E F H R", "A B G J S T X"},
		"interface{int}":                     {"D F", "A B C E H"},
		"int":                                {"D F", "A B C E H S"},
		"My":                                 {"F H R", "A C D E"},
		"interface{My; ~int}":                {"F H R", "C D E"},
		"interface{~My | ~string | float64}": {"B C D E F H J R S Of__0", "A T"},
		"interface{My | Other | bool}":       {"E F H R", "C D"},
		"interface{int; string}":             {"F", "A B C D E G"},
		// The methods are those of the set, whatever its types have.
		"Face":                 {"H I J Of__1", "A B C D E F G P R V"},
		"error":                {"P", "A I H"},
		"interface{M(); ~int}": {"H", "I J R C"},
		"interface{M() int}":   {"", "H I J V"},
		// Types of the set are strictly comparable, or it asks for it.
		"comparable":                 {"B C D E F G H J O R S T Y Of__0 Of__1", "A I K L N P Q V W X Z"},
		"interface{comparable; int}": {"D F", "C N O Y"},
		"interface{comparable; [2]any | []int | int}": {"D F O Y", "N A B"},
		"interface{M(); comparable}":                  {"H J Of__1", "I A B R G"},
		// A type parameter as a constraint is the union of itself alone.
		"A":                     {"F K", "A B C int any L"},
		"B":                     {"F U", "A B C D int string K"},
		"interface{B}":          {"F U", "B D int"},
		"[]A":                   {"F L []A", "A K []int"},
		"Is[B]":                 {"F U bool", "B D"},
		"Z":                     {"F Z", "A int"},
		"X":                     {"F", "X int Face"},
		"interface{Face | int}": {"D F X", "A I"},
	} {
		w.expectSatisfies(t, true, c, words(x.yes)...)
		w.expectSatisfies(t, false, c, words(x.no)...)
	}
	for _, c := range words("any comparable Num Face int A") {
		if typeset.Satisfies(w.Env, param("None"), w.says(t, c)) {
			t.Errorf("P14.2: a type parameter that is not there satisfies %s", c)
		}
		if c != "any" && c != "comparable" && typeset.Satisfies(w.Env, pointer(param("None")), w.says(t, c)) {
			t.Errorf("P14.2: a pointer to a type parameter that is not there satisfies %s", c)
		}
	}
	if typeset.Satisfies(w.Env, integer, param("None")) || typeset.Satisfies(w.Env, param("None"), param("None")) {
		t.Error("P14.2: a type parameter that is not there is satisfied")
	}
	// A pointer to a type parameter, and to an interface, has no methods.
	w.expectSatisfies(t, false, "Face", "*H", "*I", "*Face", "[]I", "struct{a I}")
	w.expectSatisfies(t, true, "any", "*H", "*A", "struct{a A}", "[]A", "map[B]A", "func(A) B")
	w.expectSatisfies(t, true, "comparable", "*A", "struct{a B}", "[2]N", "struct{a Q}", "[0]E")
	w.expectSatisfies(t, false, "comparable", "struct{a A}", "[]B", "[2]P", "func(A)")
}

func TestSatisfiesOfWhatIsNotThere(t *testing.T) {
	w := declared(t, "type My int; type Box[A any] struct{a A}; type Loop Loop; type To Fro; type Fro To; type Num interface{int | My}")
	for _, x := range []api.Type{
		{}, of(14), named("p.None"), named("q.My"), named("p.Box"), named("p.My", integer), named("p.Loop"), named("p.To"), slice(named("p.None")), slice(slice(null)),
		named("p.Box", named("p.None")), function(void, named("p.None")), sets(terms(only(named("p.None")))), sets(nil),
	} {
		for _, c := range []api.Type{anything, asking, named("p.Num"), integer, x, {}} {
			if typeset.Satisfies(w.Env, x, c) || typeset.Satisfies(w.Env, c, x) {
				t.Errorf("P14.2: %.200v satisfies, or is satisfied by, %.200v", x, c)
			}
		}
	}
}
