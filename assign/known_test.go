package assign_test

import (
	"slices"
	"testing"

	"sterling/api"
	"sterling/assign"
	"sterling/env"
	"sterling/types"
	"sterling/worlds"
)

// A nil *Env, as one where nothing is declared, knows error and comparable.
func TestNothingDeclared(t *testing.T) {
	for _, e := range []*env.Env{nil, {}, made(t, nil)} {
		w := world{worlds.World{Env: e}}
		w.expectGoes(t, []goes{
			{"int", "int any interface{}", "float64 uint8", "string error comparable []int nil"},
			{"error", "error any interface{Error()+string}", "", "comparable int"},
			{"interface{Error()+string}", "error any", "", "comparable"},
			{"nil", "error any *int []int map[string]int func()", "", "comparable int string"},
			{"5:", "int uint8 float64 any", "", "error comparable string"},
			{`"a":string`, "string any", "[]uint8", "error int"},
			{"*int []int *error [2]string func(error) map[error]int struct{a+int}", "any", "", "error int comparable"},
			{"[]uint8", "[]uint8", "string", "[]int"},
			{"*interface{M()}", "*interface{M()} any", "", "*error error interface{M()}"},
			{"comparable", "any interface{}", "", "comparable error interface{comparable}"},
			{"A List[int] []A *A map[string]A struct{a+A} func(A) interface{M(A)}", "", "", "any int error A []A List[int] *A struct{a+A} func(A) interface{M(A)}"},
			{"int any nil 5: \"a\":string []int", "", "", "A List[int] []A *A struct{A} func()+A interface{M(A)} List[A]"},
		})
		w.expectCompares(t, []compares{
			{"int string float64", "=", "any", "nil error comparable A"},
			{"error any interface{Error()+string}", "", "= any nil", "A comparable"},
			{"[]int func() map[int]error", "", "nil", "= any error"},
			{"A []A *A struct{a+A} func(A)", "", "", "= any nil int"},
		})
		p, q := param("P"), param("Q")
		if !assign.May(e, none, p, p) || assign.May(e, none, p, q) || assign.Converts(e, none, p, q) || assign.Compares(e, p, p, true) || assign.Compares(e, p, p, false) || assign.Compares(e, p, q, false) || !assign.May(e, none, slice(p), slice(p)) {
			t.Error("P16.1: type parameters that are not there")
		}
		if assign.Converts(e, none, p, integer) || assign.Converts(e, none, integer, p) || assign.May(e, none, slice(p), p) || assign.May(e, none, p, slice(p)) {
			t.Error("P16.2: type parameters that are not there have types")
		}
	}
}

// selfHolding stand in themselves.
func selfHolding() []api.Type {
	one := make([]api.Type, 1)
	one[0] = of(api.KPointer, one...)
	two := make([]api.Type, 2)
	two[0], two[1] = of(api.KStruct, two[:1]...), of(api.KStruct, two...)
	two[0].Names, two[0].Emb = []string{"M"}, []bool{true}
	two[1].Names, two[1].Emb = []string{"M", "N"}, []bool{true, false}
	all := make([]api.Term, 2)
	for i := range all {
		all[i].Type = api.Type{Kind: api.KInterface, Sets: [][]api.Term{all, all[:1]}}
	}
	many := slices.Repeat([]api.Type{integer}, 3001)
	many[3000] = api.Type{Kind: api.KFunc, Len: 3000, Args: many}
	return []api.Type{one[0], two[0], two[1], all[0].Type, many[3000]}
}

// unfit are types that may not be, or whose parts are not declared.
func unfit() []api.Type {
	deep := named("p.L")
	for range 1 << 16 {
		deep = pointer(deep)
	}
	wide := of(api.KStruct)
	for range api.MaxSize {
		wide.Names, wide.Emb, wide.Args = append(wide.Names, "_"), append(wide.Emb, false), append(wide.Args, integer)
	}
	withLen := integer
	withLen.Len = 1
	return append(selfHolding(), api.Type{}, of(-1), of(14), of(1<<40), of(-1<<63), deep, wide, withLen, basic("rune"), basic("int64"), basic(""), named(""), named("L"), named("p.None"), named("p.L", integer), named("p.List"),
		named("p.List", integer, integer), named("p.List", named("p.None")), pointer(named("p.None")), slice(named("p.List")), param(""), slice(of(api.KNil)), slice(of(api.KVoid)), pointer(untyped("int")), of(api.KPointer), of(api.KSlice), of(api.KSlice, integer, integer),
		of(api.KMap, integer), of(api.KArray), of(api.KFunc), untyped(""), untyped("rune"), untyped("float64"), api.Type{Kind: api.KArray, Len: -1, Args: []api.Type{integer}}, api.Type{Kind: api.KArray, Len: api.MaxArray + 1, Args: []api.Type{integer}},
		api.Type{Kind: api.KFunc, Len: 5, Args: []api.Type{integer}}, api.Type{Kind: api.KInterface, Names: []string{"M"}}, api.Type{Kind: api.KInterface, Sets: [][]api.Term{{}}}, named("error", integer), named("p.Ring"), named("p.Grow", integer), slice(named("p.None")),
		types.Func([]api.Type{named("p.None")}, api.Type{}), unionOf(named("p.None")))
}

// What may not be, or is not declared, goes nowhere and nothing goes there; it is compared with nothing, itself neither.
func TestUnfitTypes(t *testing.T) {
	w := declared(t, `type L []int; type List[P any] []P; type Ring Ring2; type Ring2 Ring; type Grow[P any] Grow[[]P]; type F interface{M()};
		func further[N interface{int | string}, Every any]() {}`)
	fit := []api.Type{integer, text, anything, of(api.KNil), untyped("int"), untyped("string"), of(api.KVoid), slice(integer), pointer(integer), named("p.L"), named("p.List", integer), named("p.F"), param("N"), param("Every"), named("error")}
	consts := []api.Const{none, literal(t, "5"), literal(t, `"a"`), literal(t, "0.5")}
	for i, x := range unfit() {
		for k, y := range append(fit, x) {
			for _, e := range []*env.Env{w.Env, nil} {
				for _, c := range consts {
					if assign.May(e, c, x, y) || assign.May(e, c, y, x) || assign.Converts(e, c, x, y) || assign.Converts(e, c, y, x) {
						t.Errorf("P16.1, P16.2: what may not be, number %d, goes to %d or comes from there", i, k)
					}
				}
				if assign.Compares(e, x, y, false) || assign.Compares(e, y, x, false) || assign.Compares(e, x, y, true) || assign.Compares(e, y, x, true) {
					t.Errorf("P16.2: what may not be, number %d, is compared with %d", i, k)
				}
			}
		}
	}
}

// Of what may not be Default is that itself, as far as it can be copied.
func TestDefaultOfUnfitTypes(t *testing.T) {
	for i, x := range unfit() {
		if got := assign.Default(x); got.Kind != x.Kind && !(i < 5 && got.Kind == api.KNone) {
			t.Errorf("P16.2: Default of what may not be, number %d, is of Kind %d", i, got.Kind)
		}
	}
}

// Sets that never end have no types: nothing goes by them.
func TestEndlessSets(t *testing.T) {
	w := declared(t, `
		type E interface{E2; int}
		type E2 interface{E}
		type Me interface{M(); Me}
		func further[P E, Q interface{E2}, R Me, S interface{T}, T interface{S}]() {}`)
	w.expectGoes(t, []goes{
		{"P", "P", "", "int Q E"},
		{"Q", "Q", "", "int P"},
		{"int 5:", "", "", "P Q R S T E E2 Me"},
		{"S", "S", "", "int T"},
		{"nil", "", "", "P Q R S T"},
	})
	for _, src := range fields("P Q R S T E E2 Me int any") {
		for _, other := range fields("P Q R S T E E2 Me int any nil") {
			x, y := w.says(t, src), w.says(t, other)
			if assign.Compares(w.Env, x, y, true) && src != "int" {
				t.Errorf("P16.2: %s is ordered with %s", src, other)
			}
		}
	}
}
