package assign_test

import (
	"fmt"
	"testing"

	"sterling/api"
	"sterling/assign"
	"sterling/types"
)

// Basic types, and what is declared as such, are compared with themselves and with interfaces.
func TestCompareBasics(t *testing.T) {
	declared(t, all).expectCompares(t, []compares{
		{"int int8 uint8 uint float32 float64 string I J B F T Ts Val Wrong N N2 Ints Nums NT Texts Is IntM", "=", "any Any", "nil bool void Num comparable struct{} []int *int One Lss Every Cmps EveryM Empty untyped+int untyped+string untyped+bool"},
		{"bool Yes", "", "= any", "nil int string untyped+bool void Yeses"},
		{"Yeses", "", "= any", "bool Yes nil"},
		{"int", "", "", "I I2 J Val int8 uint N Nums Ints Is float64 string IntM"},
		{"I", "", "", "int J I2 N Is"},
		{"N", "", "", "N2 int float64 F Nums"},
		{"string", "", "", "T Ts Texts NT Bytes []uint8 error"},
		{"uint8", "", "", "B int int8"},
	})
}

// What is compared by no order is compared by whether it is the same, if all in it is; with what it may be assigned to, too.
func TestCompareOthers(t *testing.T) {
	declared(t, all).expectCompares(t, []compares{
		{"*int **S *[]int *func() Ptr PtrI *N *any *Every", "", "= nil any Any", "int error Face void"},
		{"*int", "", "Ptr", "*I PtrI *string int uint"},
		{"Ptr", "", "*int", "*I PtrI"},
		{"S S2 SI A Em EmPtr Rich struct{} [3]int [0]string struct{a+int;b+*[]int} struct{a+any} [2]Face Pair[int,string] Pair[any,N] [2][3]S Boxed[int] Boxed[N] struct{a+[3]struct{b+error}} [4]Cmps", "", "= any", "nil int string Num void untyped+int"},
		{"S", "", "struct{a+int}", "S2 SI struct{a+I} *S"},
		{"A", "", "[3]int", "[2]int []int *[3]int"},
		{"Pair[int,string]", "", "struct{p+int;q+string}", "Pair[string,int] Pair[int,T]"},
		{"[3]func() [0][]int struct{a+[]int} struct{a+int;b+struct{c+map[string]int}} [2]struct{f+func()} Has EmBy Pair[int,[]int] Pair[L,int] Pair[int,Every] [3]Every struct{a+EveryM} Boxed[Every] Boxed[func()] struct{VL} User[int]", "", "", "= any nil Any"},
		{"[3]One [2]Lss [1]Mixed struct{a+OneT}", "", "", "= any"},
	})
}

// Slices, maps and functions are compared with nil alone.
func TestCompareWithNil(t *testing.T) {
	declared(t, all).expectCompares(t, []compares{
		{"[]int []N [][]int map[string]int func() func(int)+string L L2 VL Po Bs M Fn List[int] List[Every]", "", "nil", "= any Any Face int void"},
		{"[]int", "", "", "L L2 List[int] One OneT Ls []string"},
		{"map[string]int", "", "", "M Ms"},
		{"func(int)+string", "", "", "Fn Fns"},
		{"*int any Face error Any More Ptr interface{M()}", "", "nil", ""},
		{"nil", "", "", "= int string bool float64 I T S A [3]int struct{} N Every One OneT OneL Ls Lss Ps Fns Ms Cmps Empty Of void untyped+int untyped+bool Num Cmp comparable interface{*int} interface{comparable}"},
	})
}

// Interfaces are compared with themselves, with those that they go to, and with comparable types that implement them.
func TestCompareInterfaces(t *testing.T) {
	declared(t, all).expectCompares(t, []compares{
		{"any Any Face Face2 error More Both interface{M()} Use[int] interface{Face}", "", "= any Any nil", "Num Cmp comparable interface{comparable} []int L func() map[string]int Fn Lss One Every EveryM Mixed [3][]int void"},
		{"any", "", "error Face int I string bool float64 *int *[]int S A N Nums Cmps Is [2]any struct{} *Po Pair[int,string]", "Every Has Po VL Pair[int,M]"},
		{"Face", "", "Face2 interface{M()} More Both Val *Val Em *Em *Po *EmBy EmPtr Rich *VL Boxed[int] IntM interface{M();X()}", "Po EmBy VL Wrong int error Boxed[[]int] Boxed[Every] FaceOf N"},
		{"interface{M()}", "", "FaceOf Val", "EveryM VL"},
		{"More", "", "Both Rich *Rich interface{N(int)} interface{N(int);M();O()}", "Val error interface{O()}"},
		{"error", "", "interface{Error()+string}", "Face Val interface{Error()}"},
		{"Use[int]", "", "interface{Use(int)} *User[int]", "Use[I] User[int] *User[string]"},
		{"Num Cmp comparable NumM interface{comparable} interface{int} interface{Cmp;M()}", "", "", "= any Face nil int I N Cmps Val comparable"},
	})
}

// Type parameters are compared as all types of their sets are.
func TestCompareTypeParameters(t *testing.T) {
	w := declared(t, `
		type Face interface{M()}
		type S struct{a int}
		type Hold[P any] struct{p P}
		func further[
			Ordered interface{int | string | ~float64}, Basics interface{int | bool}, Structs interface{S | struct{a int}}, Slices interface{~[]int}, Mixed interface{int | []int},
			Ps interface{*int}, Pss interface{*int | *string}, Asked comparable, AskedM interface{comparable; M()}, AskedInt interface{comparable; int | string}, AskedSlice interface{comparable; []int | int},
			Any any, Has Face, Faces interface{[2]any | struct{f Face}}, Funcs interface{func()}, Struct interface{struct{a []int} | int},
			Meta interface{*int; M()}, Num interface{int | uint8}, Word interface{string}]() {}`)
	w.expectCompares(t, []compares{
		{"Ordered Num Word", "=", "any", "nil int string float64 Basics Asked"},
		{"Basics Structs Ps Pss Asked AskedM Faces Meta", "", "= any", "nil int bool S Ordered Any comparable"},
		{"AskedInt", "=", "any", "int string"},
		{"AskedSlice", "", "= any", "int []int nil"},
		{"Slices Mixed Any Has Funcs Struct", "", "", "= any nil []int int Asked"},
		{"Structs", "", "struct{a+int}", "S Struct"},
		{"Ps", "", "*int", "*string Pss"},
		{"Pss", "", "", "*int *string"},
		{"Meta", "", "*int interface{M()} Face", "Ps"},
		{"AskedM", "", "Face interface{M()}", "Has Asked"},
		{"Has", "", "", "Face interface{M()} AskedM"},
		{"Ordered", "", "", "Num Word interface{int|string}"},
		{"[2]Asked Hold[Asked] struct{a+Ordered}", "", "= any", "[2]Any"},
		{"[2]Any Hold[Any] struct{a+Slices} [1]Mixed", "", "", "= any"},
		{"*Any", "", "= nil any", "*Has"},
	})
}

// A set without types has none that is ordered; what is true of each of its types is.
func TestCompareEmptySets(t *testing.T) {
	w := declared(t, `func further[Empty interface{int; string}, Slices interface{[]int; []string}]() {}`)
	w.expectCompares(t, []compares{
		{"Empty Slices", "", "= any", "nil int string []int []string"},
		{"Empty", "", "", "Slices"},
	})
}

func TestDefault(t *testing.T) {
	for name, want := range map[string]string{"bool": "bool", "string": "string", "int": "int", "float": "float64"} {
		if got := assign.Default(untyped(name)); !types.Eq(got, basic(want)) {
			t.Errorf("P16.2: Default(untyped %s) is %v", name, got)
		}
	}
	w := declared(t, all)
	for _, src := range fields("bool string int int8 uint8 uint float32 float64 I L S any Face error comparable Num *int []int [3]int map[string]int func(int)+string struct{a+int;Val} interface{M();N(int)} interface{~int|string;comparable} Pair[int,[]I] N Every nil void") {
		x := w.says(t, src)
		if got := assign.Default(x); !types.Eq(got, x) || fmt.Sprint(got) != fmt.Sprint(x) {
			t.Errorf("P16.2: Default(%s) is %s", src, types.Text(got))
		}
	}
	for _, x := range []api.Type{{}, {Kind: api.KUntyped}, untyped("float64"), untyped("uint8"), untyped("rune"), {Kind: api.KBasic, Name: "float"}, {Kind: api.KNamed, Name: "float"}, {Kind: -5, Len: 7}, {Kind: 1 << 62}, slice(api.Type{})} {
		if got := assign.Default(x); fmt.Sprint(got) != fmt.Sprint(x) {
			t.Errorf("P16.2: Default(%v) is %v", x, got)
		}
	}
}
