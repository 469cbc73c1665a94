package lookup_test

import (
	"testing"

	"sterling/api"
	"sterling/lookup"
	"sterling/types"
)

func TestFindOwn(t *testing.T) {
	w := declared(t, `
		type Rows struct{a int; b []string; _ int; c func(int) Rows; _ bool}
		func (r Rows) V(a int) string {}
		func (r *Rows) P() *Rows {}
		func (r Rows) _() {}
		type List []Rows
		func (l List) Len() int {}
		func (l *List) Add(r Rows) {}
		type Same Rows
		type Sames Same
		func (s *Sames) Own() {}
		type Run func(int) string
		func (r Run) M() {}
		type Num int
		func (n Num) a() {}
		func (n *Num) Table() map[Num]string {}`)
	rows := "a: field [0] int; b: field [1] []string; c: field [3] func(int) p.Rows"
	both := rows + "; V: method [] func(int) string; P: *method [] func() *p.Rows"
	w.expectFind(t, map[string]string{
		"Rows": both, "*Rows": both, "Same": rows, "*Same": rows, "Sames": rows + "; Own: *method [] func()", "*Sames": rows + "; Own: *method [] func()",
		"struct{a int; b struct{a string}}": "a: field [0] int; b: field [1] struct{a string}", "*struct{a int; b *Rows}": "a: field [0] int; b: field [1] *p.Rows",
		"struct{_ int; x bool; _ bool; y int8}": "x: field [1] bool; y: field [3] int8",
		"List":                                  "Len: method [] func() int; Add: *method [] func(p.Rows)", "*List": "Len: method [] func() int; Add: *method [] func(p.Rows)",
		"Run": "M: method [] func()", "*Run": "M: method [] func()", "Num": "a: method [] func(); Table: *method [] func() map[p.Num]string", "*Num": "a: method [] func()",
	})
	w.expectNothing(t, "Rows *Rows List *List Same *Same Sames Run *Run Num struct{a+int} *struct{a+int} struct{} *struct{}", "_ d A v p x Rows  [0] 0 a.b \xff \x00")
	w.expectNothing(t, "Same Sames *Same *Sames", "V P Len")
	w.expectNothing(t, "List Run struct{} *List", "a b V P M[0] a[0]")
	w.expectNothing(t, "int string *int []Rows *[]Rows [2]Rows *[2]Rows map[string]Rows *map[string]Rows func()Rows *func()Rows", "a V P Len Error  _")
}

func TestFindNothingBehindPointers(t *testing.T) {
	w := declared(t, `
		type A struct{x int}
		func (a A) V() {}
		func (a *A) P() {}
		type At *A
		type ToAt *At
		type To *struct{x int}
		type Also At
		type Face interface{V(); M()}
		type Same Face
		type Is[P any] interface{V(); N(P)}
		func further[Q Face, R A, S *A, U interface{*A; V()}]() {}`,
		// No such methods can be declared, but what is asked may be told of them.
		api.Decl{Name: "p.Bad", Under: pointer(named("p.A")), Methods: []api.Method{method("B", false, nullary), method("V", true, nullary)}},
		api.Decl{Name: "p.Worse", Under: named("p.Face"), Methods: []api.Method{method("B", false, nullary), method("M", true, function(integer))}})
	w.expectNothing(t, "**A ***A At *At ToAt *ToAt To *To Also *Also *Face *Same *error *any *comparable *Is[int] *interface{V()} **Face *Q *R *S **Q", "x V P M N Error  _")
	w.expectNothing(t, "Bad *Bad **Bad *Worse", "x V P B M")
	w.expectNothing(t, "[]A *[]A [1]A map[A]A func(A)A", "x V P")
	w.expectFind(t, map[string]string{"Worse": "V: method [] func(); M: method [] func(); B: nothing", "*A": "x: field [0] int; V: method [] func(); P: *method [] func()"})
}

func TestFindOfInterfaces(t *testing.T) {
	w := declared(t, `
		type Face interface{V(); M(a int) Face}
		type Same Face
		type Wide interface{Face; error; interface{X() Wide; interface{Y()}}}
		type Is[A any] interface{Get() A; Of[[]A]}
		type Of[B any] interface{Put(b B) Is[B]}
		type Also[A any] Is[*A]
		type Num interface{~int | string; M()}
		type Key interface{comparable; K()}
		type Twice interface{Face; interface{V()}}
		type Clash interface{Face; interface{V() int}}
		type Self interface{M(); Self}
		type Grows[A any] interface{M(); Grows[[]A]}`)
	w.expectFind(t, map[string]string{
		"error": "Error: method [] func() string; error: nothing", "any": "Error: nothing; M: nothing", "comparable": "M: nothing; Error: nothing",
		"Face": "V: method [] func(); M: method [] func(int) p.Face; X: nothing; Face: nothing", "Same": "V: method [] func(); M: method [] func(int) p.Face",
		"Wide":                             "V: method [] func(); M: method [] func(int) p.Face; Error: method [] func() string; X: method [] func() p.Wide; Y: method [] func(); Face: nothing",
		"interface{M() int; error; Face}":  "M: nothing; Error: nothing; V: nothing",
		"interface{A() int; error; Num}":   "A: method [] func() int; Error: method [] func() string; M: method [] func()",
		"Is[string]":                       "Get: method [] func() string; Put: method [] func([]string) p.Is[[]string]; Of: nothing",
		"Is[Is[int]]":                      "Get: method [] func() p.Is[int]; Put: method [] func([]p.Is[int]) p.Is[[]p.Is[int]]",
		"Also[int]":                        "Get: method [] func() *int; Put: method [] func([]*int) p.Is[[]*int]",
		"interface{Of[bool]; B(Of[bool])}": "Put: method [] func(bool) p.Is[bool]; B: method [] func(p.Of[bool])",
		"Num":                              "M: method [] func(); int: nothing", "Key": "K: method [] func(); comparable: nothing", "Twice": "V: method [] func(); M: method [] func(int) p.Face",
	})
	w.expectNothing(t, "Clash interface{Clash} Self interface{Self} Grows[int] interface{M();Grows[int]}", "V M Self Face")
	w.expectNothing(t, "error any Face Wide Is[int] Num", "_  v m a error Of")
}

func TestFindOfParameters(t *testing.T) {
	w := declared(t, `
		type Rows struct{x int}
		func (r Rows) V() {}
		type Face interface{M(); N(a int) string}
		type Is[A any] interface{Get() A}
		type Box[A Face, B interface{comparable; C(A)}] struct{a A; B func(B)}
		func further[P Face, Q Rows, R *Rows, S interface{~struct{x int}; V()}, U interface{Rows; V()}, V Is[P], W interface{Is[[]V]; error}, X any, Y Face | int, Z P, A comparable, B Self]() {}
		type Self interface{M(); Self}`)
	w.expectFind(t, map[string]string{
		"P": "M: method [] func(); N: method [] func(int) string; x: nothing", "S": "V: method [] func(); x: nothing", "U": "V: method [] func(); x: nothing", "V": "Get: method [] func() $1:P",
		"W": "Get: method [] func() []$1:V; Error: method [] func() string", "Box__0": "M: method [] func(); a: nothing", "Box__1": "C: method [] func($7:p.Box#0); M: nothing",
		"Box[P,Box__1]": "a: field [0] $1:P; B: field [1] func($7:p.Box#1)", "Box[Box__1,Box__0]": "a: field [0] $7:p.Box#1; B: field [1] func($7:p.Box#0)",
	})
	w.expectNothing(t, "Q R X Y Z A B *P *Q *S *U *V []P [1]P", "x V M N P Q a Get _ ")
	// A type parameter that isn't declared has none.
	if got := tell(w.Env, param("None"), "M"); got != "nothing" {
		t.Errorf("P15.1: Find of a type parameter that is not there is %s", got)
	}
}

// A type parameter may have the name of a declared type.
func TestFindOfParametersWithNamesOfTypes(t *testing.T) {
	w := declared(t, "type A struct{x int}")
	e := made(t, w.Decls)
	if got := tell(e, param("p.A"), "x"); got != "nothing" {
		t.Errorf("P15.1: Find of a type parameter is %s", got)
	}
}

// A declaration may have a name that no declared type can have: what is no declared type has none of its methods.
func TestFindBesideOddDeclarations(t *testing.T) {
	var decls []api.Decl
	for _, name := range []string{"int", "P", "x"} {
		decls = append(decls, api.Decl{Name: name, Under: structOf(field("x", integer)), Methods: []api.Method{method("M", false, nullary)}})
	}
	e := made(t, decls)
	for _, x := range []api.Type{integer, pointer(integer), param("P"), pointer(param("P")), {Kind: api.KUntyped, Name: "int"}, structOf(field("y", integer))} {
		if tell(e, x, "M") != "nothing" || tell(e, x, "x") != "nothing" || len(lookup.Set(e, x)) > 0 || lookup.Implements(e, x, interfaceOf("M", nullary)) {
			t.Errorf("P15: Kind %d has the members of a declaration", x.Kind)
		}
	}
}

func TestFindOfInstances(t *testing.T) {
	w := declared(t, `
		type Box[A any] struct{a A; embed B[A, []A]; f func(A) Box[A]}
		func (b Box[A]) Get() A {}
		func (b *Box[X]) Put(x X, y Box[[]X]) map[string]X {}
		type B[A any, C any] struct{b A; embed *D[C]; c map[string]C}
		func (b *B[_, Y]) Second() Y {}
		func (b B[Y, X]) First(x X) Y {}
		type D[A any] []A
		func (d D[A]) At(i int) A {}
		type Other Box[bool]
		type Less[A any] Box[*A]
		type Swap[A any, C any] struct{embed B[C, A]}
		type Twelve[A0 any, A1 any, A2 any, A3 any, A4 any, A5 any, A6 any, A7 any, A8 any, A9 any, A10 any, A11 any] struct{a1 A1; a10 A10}
		func (t Twelve[A0, A1, A2, A3, A4, A5, A6, A7, A8, A9, A10, A11]) M(a A1, b A10, c A11) A0 {}
		func further[P any]() {}`)
	w.expectFind(t, map[string]string{
		"Box[int]": "a: field [0] int; f: field [2] func(int) p.Box[int]; Get: method [] func() int; Put: *method [] func(int,p.Box[[]int]) map[string]int; B: field [1] p.B[int,[]int];" +
			" b: field [1 0] int; c: field [1 2] map[string][]int; Second: *method [1] func() []int; First: method [1] func([]int) int; D: field [1 1] *p.D[[]int]; At: method [1 1] func(int) []int",
		"*Box[Box[P]]": "a: field [0] p.Box[$1:P]; Get: method [] func() p.Box[$1:P]; At: method [1 1] func(int) []p.Box[$1:P]",
		"Box[Box__0]":  "a: field [0] $7:p.Box#0; Get: method [] func() $7:p.Box#0; First: method [1] func([]$7:p.Box#0) $7:p.Box#0", "Box[[]Box__0]": "Put: *method [] func([]$7:p.Box#0,p.Box[[][]$7:p.Box#0]) map[string][]$7:p.Box#0; a: field [0] []$7:p.Box#0",
		"Other": "a: field [0] bool; Get: nothing; Put: nothing; At: method [1 1] func(int) []bool", "Less[string]": "a: field [0] *string; Get: nothing; First: method [1] func([]*string) *string",
		"Swap[int,string]": "b: field [0 0] string; Second: *method [0] func() int; At: method [0 1] func(int) int", "Swap[B__1,B__0]": "First: method [0] func($5:p.B#1) $5:p.B#0",
		"D[error]": "At: method [] func(int) error", "*D[error]": "At: method [] func(int) error",
		"Twelve[bool,int,int8,bool,bool,bool,bool,bool,bool,bool,string,error]": "a1: field [0] int; a10: field [1] string; M: method [] func(int,string,error) bool",
	})
	w.expectNothing(t, "Box B[int] Box[int,int] Box[None] Box[func()Box] *Box D[int,int] []Box[int] Box__0", "a b Get First Put At")
}

// What is found of a method whose type is too great with arguments put for parameters.
func TestFindOfMethodsThatAreTooGreat(t *testing.T) {
	w := declared(t, `
		type Box[A any] struct{a A}
		func (b Box[A]) Pair(x A, y A) {}
		func (b Box[A]) One(x A) {}
		func (b Box[A]) Deep() []A {}`)
	great := of(api.KFunc)
	for great.Len < 2100 {
		great.Args, great.Len = append(great.Args, integer), great.Len+1
	}
	great.Args = append(great.Args, void)
	deep := integer
	for range api.MaxDepth - 2 {
		deep = slice(deep)
	}
	for name, want := range map[string]bool{"Pair": false, "One": true, "Deep": true, "a": true} {
		if got := tell(w.Env, named("p.Box", great), name); (got != "nothing") != want {
			t.Errorf("P15.1: Find(Box[..], %s), of many types, is %.100s", name, got)
		}
	}
	for name, want := range map[string]bool{"Pair": true, "One": true, "Deep": false, "a": true} {
		if got := tell(w.Env, named("p.Box", deep), name); (got != "nothing") != want {
			t.Errorf("P15.1: Find(Box[..], %s), of a deep type, is %.100s", name, got)
		}
	}
	if types.May(named("p.Box", slice(deep))) || tell(w.Env, named("p.Box", slice(deep)), "a") != "nothing" {
		t.Error("P15.1: a type that is too deep has a field")
	}
}
