package assign_test

import "testing"

// Numbers are converted to numbers; nothing else is converted to or from them.
func TestNumbers(t *testing.T) {
	declared(t, all).expectGoes(t, []goes{
		{"int8 uint8 uint float32 B F I2 J", "any", "int I float64 N N2 Ints Nums Is Val Wrong IntM", "string bool T Yes []uint8 []int *int NT Bytes Mixed Every Empty Cmps EveryM S A Face M Fn Lss Texts Yeses"},
		{"float64", "float64", "int uint8 F N Nums", "string bool"},
		{"bool", "any", "Yes Yeses", "int uint8 float64 string I F N NT"},
		{"uint8 int I", "", "", "string T Texts []uint8 error"},
	})
}

// Strings are converted to slices of uint8 and back, a declared one beneath too, and to nothing else.
func TestBytes(t *testing.T) {
	declared(t, all).expectGoes(t, []goes{
		{"string T Ts", "", "[]uint8 []B Bs BsB List[uint8] List[B] Other[B] AllB Bytes Texts", "[]int []int8 []uint []string []N L BsBs [][]uint8 []Bs [1]uint8 *[]uint8 *uint8 uint8 map[int]uint8 []bool List[int] Lss List[N] Fixed[uint8] []I"},
		{"[]uint8", "[]uint8 Bs List[uint8] Other[uint8]", "string T Ts Texts Bytes", "[]B BsB error int uint8 [1]uint8 *[1]uint8 []int NT"},
		{"[]B", "[]B BsB List[B]", "string T Texts", "[]uint8 Bs Bytes AllB *string []string"},
		{"Bs", "Bs []uint8", "string T List[uint8] Texts", "BsB []B"},
		{"BsB", "BsB []B", "string T Ts Texts List[B]", "Bs []uint8 Bytes"},
		{"List[B]", "[]B", "string T", "Bs"},
		{"AllB", "AllB", "string T Texts", "[]uint8 Bs BsB Bytes"},
		{"BsBs []Bs [][]uint8 []int8 []uint []int []bool []string []N [1]uint8 *[]uint8 *[1]uint8 uint8 []List[uint8] List[int] Fixed[uint8] Lss L map[uint8]uint8 func(uint8) []*uint8", "any", "", "string T Texts Bytes"},
	})
}

// Of N's types one is no number of bytes that a slice may have, though all are numbers.
func TestBytesOfTypeParameters(t *testing.T) {
	w := declared(t, `
		type B uint8
		func further[U interface{uint8}, V interface{~uint8 | B}, W interface{[]U}, X interface{[]uint8; []uint8}]() {}`)
	w.expectGoes(t, []goes{
		{"string", "", "X", "[]U []V W"},
		{"[]U", "W", "", "string []uint8 []B X"},
		{"U", "U", "uint8 B V", "string W"},
		{"X", "[]uint8", "string", "W []B"},
		{"W", "[]U", "", "string X []uint8"},
	})
}

// Slices are converted to no arrays, nor to pointers to them; nor arrays to slices.
func TestArrays(t *testing.T) {
	w := declared(t, all)
	w.expectGoes(t, []goes{
		{"[]int L List[int] One OneT Ls", "", "", "[3]int [0]int [1]int A *[3]int *[0]int *A As"},
		{"[]uint8 string Bs", "", "", "[3]uint8 *[3]uint8 [0]uint8 *[0]uint8"},
		{"[3]int A As *[3]int *A", "any", "", "[]int L List[int] []int One Ls"},
		{"*[3]int", "*[3]int", "*A", "[3]int *[2]int *[3]I"},
	})
}

// Types whose underlying types are Eq are converted to one another, and pointers whose bases' ones are; no deeper.
func TestUnderlyingOfPointers(t *testing.T) {
	declared(t, all).expectGoes(t, []goes{
		{"*I", "*I PtrI any", "*int *I2 *J *Val *Wrong", "Ptr **int *float64 *uint *N *Is I int []I"},
		{"Ptr", "Ptr *int", "", "*I *I2 PtrI **int *Ptr"},
		{"PtrI", "PtrI *I", "", "*int *I2 Ptr *J"},
		{"*int", "*int Ptr", "*I *J", "PtrI"},
		{"**int", "**int", "*Ptr", "**I *PtrI *int"},
		{"*Ptr", "*Ptr", "**int", "**I *PtrI"},
		{"*L", "*L", "*[]int *L2 *Po *List[int] *Fixed[N]", "*[]I L *Bs *[3]int"},
		{"*S", "*S", "*S2 *struct{a+int}", "*SI S *struct{a+I}"},
		{"*Face", "*Face", "*Face2 *interface{M()}", "*interface{Face} *any *EveryM *Val Face"},
		{"*any", "*any *interface{}", "*Any", "*Face *error *Every"},
		{"*N", "*N", "", "*N2 *int *I *Nums"},
		{"*Pair[int,I]", "*Pair[int,I]", "*struct{p+int;q+I}", "*Pair[int,int] *Pair[I,int] *struct{p+int;q+int}"},
		{"[]I", "[]I List[I]", "", "[]int L []J"},
		{"map[string]*int", "map[string]*int", "", "map[string]*I map[T]*int M"},
		{"func(*int)", "func(*int)", "", "func(*I) func(Ptr)"},
		{"struct{a+*int}", "struct{a+*int}", "", "struct{a+*I} struct{a+Ptr}"},
		{"Ps", "*int Ps", "Ptr", "*I *I2 PtrI"},
	})
}

// From and to type parameters: each type of each set.
func TestTypeParametersConverted(t *testing.T) {
	w := declared(t, `
		type I int
		type J int
		type S struct{a int}
		type Face interface{M()}
		type V int
		func (v V) M() {}
		type Ptr *int
		type PtrTo *int
		func further[
			Ints interface{int | ~uint8}, Floats interface{float32 | ~float64}, Mixed interface{int | string},
			Ps interface{*int | *I}, PsJ interface{*J | *int}, PsP interface{*int | Ptr}, Vs interface{V | *V}, VsI interface{V | I},
			Ss interface{S | struct{a int}}, Structs interface{~struct{a int}}, Wide interface{~struct{a int} | int},
			Texts interface{string | ~[]uint8}, Strings interface{~string}, Empty interface{int; bool}, All any, Funcs interface{~func(int) | func(string)},
			In interface{[]Ints}, Faces interface{V; M()}]() {}`)
	w.expectGoes(t, []goes{
		{"Ints", "Ints any", "Floats int I V float32 uint8 VsI Faces", "string bool Mixed Wide Face All Empty *int Texts"},
		{"Floats", "Floats any", "Ints int I", "string Mixed Empty All"},
		{"Mixed", "Mixed any", "", "int string Ints Strings Texts Empty All []uint8"},
		{"Ps", "Ps any", "*int *I *J *V PsJ", "Ptr PtrTo PsP **int int Face"},
		{"PsJ", "PsJ", "Ps *int *I *J", "PsP Ptr"},
		{"PsP", "PsP *int", "Ptr PtrTo", "*I Ps PsJ"},
		{"*I", "*I", "*int Ps PsJ", "PsP"},
		{"Vs", "Vs any interface{M()}", "Face", "V *V int VsI"},
		{"VsI", "VsI any", "int I Ints", "Face interface{M()} Vs"},
		{"Faces", "Faces any Face interface{M()}", "V int I", "string"},
		{"Ss", "Ss struct{a+int}", "S Structs", "Wide struct{a+I}"},
		{"Structs", "Structs struct{a+int}", "S Ss", "Wide int"},
		{"Texts", "Texts", "Strings string []uint8", "Mixed Ints []int"},
		{"Strings", "Strings", "string Texts []uint8", "Ints Mixed"},
		{"Empty", "Empty any", "", "int bool Ints All string Face"},
		{"All", "All any", "", "int Ints Empty Face string Mixed Faces"},
		{"Funcs", "Funcs", "", "func(int) func(string)"},
		{"In", "In []Ints", "", "[]int []uint8"},
		{"5: 5.0:", "Ints Floats any", "", "Mixed Wide Strings Texts Empty All Ps"},
		{"5:int", "int", "Ints Floats VsI Faces", "Mixed Texts Empty All"},
		{"300:int", "int", "Floats VsI", "Ints Mixed"},
		{"300:", "Floats VsI", "", "Ints Mixed"},
		{`"a":`, "Strings", "Texts []uint8", "Mixed All Empty Ints"},
		{"0.5:", "Floats", "", "Ints VsI"},
		{"nil", "*int any Face", "", "Ps PsJ PsP Funcs In Vs Empty All Texts"},
		{"void", "", "", "Ps Ints Mixed Empty All any"},
	})
}

// nil is converted to what may be nil, to no type parameter, and nothing to what no variable may be of.
func TestNeverConverted(t *testing.T) {
	declared(t, all).expectGoes(t, []goes{
		{"nil", "*int []int Ptr any", "", "One OneT Ls Ps Fns Ms int string bool [3]int S Num"},
		{"Num", "any", "", "Num int float64 N interface{~int|~float64}"},
		{"Cmp comparable", "any", "", "Cmp comparable interface{comparable} int"},
	})
}
