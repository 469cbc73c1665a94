package assign_test

import "testing"

// The same type is assigned to itself, whatever it is of.
func TestTheSameType(t *testing.T) {
	w := declared(t, all)
	for _, src := range []string{"bool", "string", "int", "int8", "uint8", "uint", "float32", "float64", "I", "J", "S", "Face", "any", "Any", "error",
		"*int", "[]int", "[3]int", "[0]I", "map[string]int", "func()", "func(S)+string", "struct{}", "struct{a+int;I}", "interface{M()}",
		"Pair[int,string]", "List[I]", "List[List[N]]", "N", "Every", "Empty", "Pair__0", "[]N", "Ptr"} {
		w.expectGoes(t, []goes{{src, src, "", ""}})
	}
	w.expectGoes(t, []goes{
		{"Pair[int,string]", "Pair[int,string] struct{p+int;q+string}", "", "Pair[string,int] Pair[int,T] Pair[I,string] struct{p+int;q+T} struct{q+int;p+string}"},
		{"List[int]", "List[int] []int", "One OneT Ls L Other[int] Fixed[string] Ls2 OneL", "List[I] []I List[string] Other[string]"},
		{"List[N]", "List[N] []N", "Of Other[N]", "List[N2] []N2 List[int] List[Every]"},
		{"List[List[int]]", "List[List[int]] []List[int]", "Other[List[int]]", "List[Other[int]] [][]int List[[]int]"},
		{"Fixed[int]", "Fixed[int] []int", "Fixed[string] Fixed[bool] L List[int]", "[]string"},
		{"interface{M();N(int)}", "interface{M();N(int)} More Both interface{N(int);M()} interface{N(int);Face}", "", "interface{M();N()}"},
		{"*interface{Face;error}", "*interface{error;Face}", "", "*interface{Face} *interface{Face;error;any}"},
	})
}

// nil goes to what may be nil, and to nothing else.
func TestNil(t *testing.T) {
	declared(t, all).expectGoes(t, []goes{{"nil",
		"*int *S **int []int map[string]int func() func(int)+string any interface{M()} Face Any error Ptr L L2 M Fn Po VL List[int] List[N] Use[int] Bs []N *N",
		"", "bool string int float64 I T Yes struct{} S [3]int A [0]*int Pair[int,int] Em N Every EveryM Empty One OneT OneL Ls Lss Ps Fns Ms Cmps Of Chan nil void " +
			"untyped+int untyped+bool comparable Num Cmp NumM interface{comparable} interface{[]int} interface{*int|[]int} List__0"}})
}

// What is identical beneath goes, if one of the two has no name.
func TestUnderlying(t *testing.T) {
	declared(t, all).expectGoes(t, []goes{
		{"L", "[]int L", "One OneT Ls L2 List[int] Po VL Fixed[bool]", "[]I []string [3]int *[]int map[int]int List[I]"},
		{"[]int", "L L2 Po VL List[int] Fixed[I] One OneT OneL Ls Ls2 Chan", "", "Bs []I []string string Lss Mixed Of"},
		{"int", "int", "I I2 J Val Wrong int8 uint8 uint float32 float64 F B N Ints Nums Is IntM", "string bool T []int *int NT Bytes Mixed Texts Yeses Lss Every Cmps Empty EveryM FaceOf"},
		{"I", "I", "int I2 J Val float64 F B N N2 Ints Nums Is", "string T Yes NT *I PtrI"},
		{"J", "J", "int I I2 Val", "string"},
		{"bool", "bool", "Yes Yeses", "int string T"},
		{"Yes", "Yes", "bool Yeses", "int"},
		{"string", "string", "T Ts []uint8 []B Bs BsB Texts Bytes AllB", "int I []int []T NT error [3]uint8 *[3]uint8 []int8 []uint []List[uint8]"},
		{"T", "T", "string Ts []uint8 Bs BsB Texts Bytes AllB", "[]T []string int"},
		{"Ts", "Ts", "T string", "I"},
		{"map[string]int", "M map[string]int Ms", "", "map[T]int map[string]I map[int]string"},
		{"M", "M map[string]int", "Ms", "map[string]I"},
		{"func(int)+string", "Fn func(int)+string Fns", "", "func(I)+string func(int)+T func(int) func()+string func(int,int)+string"},
		{"Fn", "Fn func(int)+string", "Fns", "func(int)"},
		{"*int", "*int Ptr Ps", "*I *J *I2", "PtrI *string **int int []int *float64 *[]int"},
		{"Ptr", "*int Ptr", "Ps", "*I PtrI"},
		{"PtrI", "PtrI *I", "", "Ptr"},
		{"*I", "*I PtrI", "*int *I2 *J *Val", "Ptr *N *float64 Ps"},
		{"[3]int", "A [3]int As", "", "[2]int [3]I []int L *[3]int"},
		{"A", "A [3]int", "As", "[4]int"},
		{"struct{a+int}", "S S2 struct{a+int} Ss", "", "SI struct{b+int} struct{a+int;b+int} struct{} struct{a+I}"},
		{"S", "S struct{a+int}", "S2 Ss", "SI struct{a+I}"},
		{"struct{Val}", "Em struct{Val}", "", "struct{Val+Val} struct{Po}"},
		{"*S", "*S", "*S2 *struct{a+int}", "*SI S **S"},
		{"*struct{a+int}", "*struct{a+int}", "*S *S2", "*struct{a+I}"},
		{"[]S", "[]S", "", "[]S2 []struct{a+int}"},
		{"[]struct{a+int}", "[]struct{a+int} List[struct{a+int}]", "", "[]S"},
		{"Any", "any interface{} Any", "", "error Face"},
	})
}

// A type goes to the interfaces whose methods it has.
func TestInterfaces(t *testing.T) {
	declared(t, all).expectGoes(t, []goes{
		{"int bool string I J T L *int []int map[string]int func() struct{} [3]int S Po EmBy Wrong Has nil Every N NT Empty Cmps OneT List[int] **Val *Every",
			"any Any interface{}", "", "void"},
		{"Val *Val Em *Em *Po *EmBy EmPtr *EmPtr Rich *Rich VL *VL Boxed[int] *Boxed[N] EveryM IntM struct{Val} *struct{Po} Face Face2 More Both interface{M();X()}",
			"Face Face2 interface{M()} interface{Face} interface{Face;Face2;any} any", "", "error interface{X();M();Y()} interface{M()+int} Num Cmp NumM comparable"},
		{"Po EmBy Wrong Has Every N Cmps int **Val **Em *EveryM *Face", "any", "", "Face Face2 More Both interface{M()}"},
		{"FaceOf", "interface{M()} any interface{Face}", "Face Face2", "More Both interface{M();N(int)} error"},
		{"Wrong *Wrong", "interface{M()+int}", "", "Face"},
		{"Rich *Rich More Both", "More Both interface{N(int)} Face", "", "interface{N()} interface{N(I)} interface{N(int);O()}"},
		{"Val Em *Po Face EveryM", "Face", "", "More Both interface{N(int)}"},
		{"error", "error any interface{Error()+string}", "", "Face interface{Error()}"},
		{"interface{Error()+string}", "error", "", "Face"},
		{"User[int] *User[int] Use[int]", "Use[int] interface{Use(int)} any", "", "Use[I] Use[string] Use[N] Face"},
		{"User[N]", "Use[N]", "", "Use[int] Use[N2]"},
		{"any Any", "any Any interface{}", "", "int I *int []int Face error N Every Cmps EveryM One"},
		{"Face", "Face", "", "Val *Po Em Rich EveryM FaceOf IntM"},
		{"L", "any", "Po VL", "Face"},
	})
}

// A type parameter goes to types without names, and back, as all types of its set do.
func TestTypeParameters(t *testing.T) {
	declared(t, all).expectGoes(t, []goes{
		{"One", "One []int any", "OneT OneL Ls Ls2 L L2 List[int] Chan", "Lss []I Face Mixed []string Every Of"},
		{"OneT", "OneT []int", "One OneL L", "[]string"},
		{"OneL", "OneL []int", "L L2 One Ls2", "[]I"},
		{"Ls", "Ls []int", "L L2 One OneL Ls2", "[]string Mixed"},
		{"Ls2", "Ls2 []int", "L One Ls OneL", "[]string *[]int"},
		{"Chan", "Chan []int", "List[int] L Ls", "[]string"},
		{"Lss", "Lss", "", "[]int []string L One Ls"},
		{"Ps", "Ps *int", "Ptr", "*I PtrI One"},
		{"Fns", "Fns func(int)+string", "Fn", "func(int) func()"},
		{"Ms", "Ms map[string]int", "M", "map[string]I"},
		{"Ss", "Ss struct{a+int}", "S S2", "SI struct{a+I} *S"},
		{"As", "As [3]int", "A", "[]int [4]int"},
		{"Mixed", "Mixed", "", "[]int int L I One N Is"},
		{"Of", "Of []N", "", "[]N2 []int List[N2] One"},
		{"N", "N", "N2 int I float64 F int8 uint Nums Ints Is", "string []int *int bool NT Every Empty []N Mixed Texts"},
		{"Nums", "Nums", "N Ints int I B float32", "string Bytes"},
		{"NT", "NT", "", "int string N Texts []uint8 Bytes"},
		{"Is", "Is", "int I I2 N float64", "string NT"},
		{"Texts", "Texts", "string T Bytes []uint8 Bs AllB", "int []int NT"},
		{"Bytes", "Bytes", "string T []uint8 Bs Texts", "BsB NT int []int AllB"},
		{"AllB", "AllB", "string T Texts", "[]int NT"},
		{"Yeses", "Yeses", "bool Yes", "int string"},
		{"IntM", "IntM", "int N I Val", "string"},
		{"FaceOf", "FaceOf", "", "Val Rich int S IntM"},
		{"Empty", "Empty any", "", "int string []int L One N Every Face"},
		{"Every", "Every any", "", "int []int *int Cmps One EveryM N Face"},
		{"EveryM", "EveryM any Face", "", "Val *Po []int Every Cmps"},
		{"Cmps", "Cmps any", "", "int []int Every N comparable Cmp"},
		{"*N", "*N any", "", "*N2 *int *Every"},
		{"[]N", "[]N List[N] Of", "", "[]N2 []int L"},
		{"[]int L", "[]int", "", "Every EveryM Empty Lss Mixed Cmps N"},
		{"Pair__0", "Pair__0 any", "", "Pair__1 int List__0 N"},
	})
}

// What gives nothing goes nowhere; and nothing goes to what no variable may be of.
func TestNeverAssigned(t *testing.T) {
	declared(t, all).expectGoes(t, []goes{
		{"void", "", "", "void nil untyped+int any Any Face int *int []int N Every One comparable Num struct{} func() error"},
		{"int I []int *int S any Face error N Every One Empty Cmps nil void 5: \"a\": true: 0.5: 5:int List[int] Num comparable untyped+int",
			"", "", "Num Cmp NumM comparable interface{int} interface{~int|~float64} interface{comparable} interface{Num} interface{Cmp;Face} interface{M();int} nil void untyped+int untyped+bool untyped+string untyped+float"},
		{"Num", "any Any", "", "Num int float64 N comparable Face"},
		{"comparable Cmp interface{comparable}", "any", "", "comparable Cmp interface{comparable} int Cmps"},
		{"NumM", "any Face interface{M()}", "", "NumM Num int"},
	})
}
