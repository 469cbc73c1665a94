package assign_test

import (
	"strings"
	"testing"

	"sterling/api"
	"sterling/assign"
	"sterling/bigint"
	"sterling/ratio"
)

// What is as great as a float may be, by its last bit, and the least that is rounded to an infinity.
const (
	greatest32 = "0x1.fffffep127"
	beneath32  = "0x1.fffffefffffp127"
	beyond32   = "0x1.ffffffp127"
	greatest64 = "0x1p999*0x1.fffffffffffffp24"
	beneath64  = "0x1p999*0x1.fffffffffffff7fp24"
	beyond64   = "0x1p999*0x1.fffffffffffff8p24"
)

const (
	integers = "int int8 uint8 uint I B"
	floats   = "float32 float64 F"
	numerics = integers + " " + floats
	others   = "*int []int Ptr L [1]int A struct{} S map[string]int M func() Fn error Face Num comparable Every Cmps EveryM Empty nil void untyped+int untyped+float untyped+bool untyped+string"
)

// An untyped constant goes to the basic types in which it is representable, declared ones too.
func TestUntypedConstants(t *testing.T) {
	declared(t, all).expectGoes(t, []goes{
		{"true: false:", "bool Yes Yeses any Any", "", numerics + " string T []uint8 N NT " + others},
		{`"": "a":`, "string T Ts Texts any", "[]uint8 Bs BsB []B Bytes AllB", numerics + " bool Yes NT [1]uint8 []string []T []int8 N " + others},
		{"0: 1: 127:", numerics + " N Nums Ints Is any Any interface{}", "", "string bool T Yes NT []uint8 Bytes AllB Mixed Lss FaceOf One Of " + others},
		{"-1: -128:", "int int8 float32 float64 F I N Is any", "", "uint8 uint B Ints Nums NT string " + others},
		{"128: 255:", "int uint8 uint float32 float64 B N any", "", "int8 Ints Nums string"},
		{"-129:", "int float64 float32 I N any", "", "int8 uint8 uint B"},
		{"256:", "int uint float64 N any", "", "int8 uint8 B Ints"},
		{"9223372036854775807:", "int uint float32 float64 N Is any", "", "int8 uint8 B"},
		{"9223372036854775808: 18446744073709551615:", "uint float32 float64 F", "", "int I int8 N Is Ints any Any interface{}"},
		{"-9223372036854775808:", "int float32 float64 I N any", "", "uint int8 uint8"},
		{"-9223372036854775809: 18446744073709551616:", "float32 float64 F", "", "int uint I N any string"},
		{"1.0: 0.0: 127.0: 1e0: 0x1p3:", numerics + " N Nums Ints any", "", "string bool T NT Bytes " + others},
		{"-1.0: -128.0:", "int int8 float32 float64 N Is any", "", "uint8 uint Ints"},
		{"255.0:", "uint8 int float64 any", "", "int8 string"},
		{"256.0:", "int float64 any", "", "int8 uint8 string"},
		{"9223372036854775807.0:", "int uint float64 N any", "", "int8"},
		{"9223372036854775808.0: 1e19:", "uint float64 float32 any", "", "int I N"},
		{"18446744073709551615.0:", "uint any", "", "int N"},
		{"18446744073709551616.0: 1e20:", "float64 float32 any", "", "int uint N"},
		{"0.5: -0.5: 1.1: 1e-300: 255.5: 126.99999999999999999999: 0x1p-999:", floats + " any interface{} Any", "", integers + " N Nums Ints Is string bool NT Face " + others},
		{greatest32 + ": -" + greatest32 + ": " + beneath32 + ":", floats + " any", "", "int uint N Ints string"},
		{beyond32 + ": -" + beyond32 + ": 1e39: " + greatest64 + ": -" + beneath64 + ":", "float64 F any", "", "float32 Nums int N"},
		{beyond64 + ": -" + beyond64 + ": 1e309: 1e999:", "", "", numerics + " any Any interface{} N Nums string"},
		{"1000000000000000000000000000000000000000:", "float64 F", "", "float32 int any Nums"},
		{"0x1" + strings.Repeat("0", 255) + ":", "float64 F", "", "float32 int any Nums"},
		{"0x1" + strings.Repeat("0", 256) + ": -0x1" + strings.Repeat("0", 2000) + ":", "", "", numerics + " N any"},
		{"1: 0.5: true: \"a\":", "any", "", "error Face More Use[int] interface{X()} Num Cmp comparable interface{Num}"},
	})
}

// A typed constant goes where its type does; it is converted to where it is representable.
func TestTypedConstants(t *testing.T) {
	declared(t, all).expectGoes(t, []goes{
		{"1:int", "int any", "int8 uint8 uint float32 float64 I B F N Nums Ints Is", "string bool T Yes NT error " + others},
		{"300:int", "int any", "uint float32 float64 I F N", "int8 uint8 B Ints Nums string"},
		{"-1:int8", "int8 any", "int float32 float64 I F N Is", "uint8 uint B Ints Nums"},
		{"-1:I", "I any", "int I2 int8 float64 N Is", "uint Ints"},
		{"18446744073709551615:uint", "uint any", "float32 float64", "int int8 uint8 N Ints"},
		{"1.0:float64 1:float64", "float64 any", numerics[:len(integers)] + " float32 F N Nums Ints Is", "string bool NT"},
		{"1.5:float64", "float64 any", "float32 F", integers + " N Nums Ints Is string"},
		{"1.5:F", "F any", "float32 float64", integers + " N Nums Ints Is string"},
		{"1.5:float32", "float32 any", "float64 F", integers + " N string"},
		{"1e300:float64", "float64 any", "F", "float32 Nums int N string"},
		{"1e30:float32", "float32 any", "float64 F", "int uint N"},
		{"true:bool", "bool any", "Yes Yeses", "int string T"},
		{"true:Yes", "Yes any", "bool Yeses", "int string"},
		{`"a":string`, "string any", "T Ts []uint8 Bs BsB []B Texts Bytes AllB", "int I []int []string NT bool [1]uint8 *[1]uint8"},
		{`"a":T`, "T any", "string Ts []uint8 Bs BsB Texts Bytes AllB", "int []T"},
		{"1:N", "N any", "int8 uint8 int uint I float32 float64 F N2 Nums Ints Is", "string NT []int Every"},
		{"300:N", "N any", "int uint float64 N2", "int8 uint8 Ints"},
		{"1.5:N", "N any", "", "int8 string"},
	})
}

// A constant has the kind that goes with its untyped type, or it goes nowhere; so does one that is none.
func TestWrongConstants(t *testing.T) {
	everywhere := "any Any Every EveryM N Nums NT Texts Yeses Bytes AllB bool string " + numerics + " T Yes []uint8 Bs " + others
	declared(t, all).expectGoes(t, []goes{
		{"untyped+int untyped+float untyped+bool untyped+string", "", "", everywhere},
		{"1:untyped+float 1:untyped+bool 1:untyped+string 1.0:untyped+int 0.5:untyped+int 0.5:untyped+bool 0.5:untyped+string true:untyped+int true:untyped+float true:untyped+string " +
			`"a":untyped+int "a":untyped+float "a":untyped+bool`, "", "", everywhere},
		{"1:untyped+rune 1:untyped+ 1.5:untyped+float64 1.5:untyped+float32 true:untyped+any", "", "", everywhere},
	})
}

// What can't be the constant of its type is converted to no basic type.
func TestConstantsOfOtherTypes(t *testing.T) {
	declared(t, all).expectGoes(t, []goes{
		{"5:[]int", "[]int L any", "", "int float64 I"},
		{"5:*int 5:any 5:S 5:error 5:Every 5:func() 5:[3]int", "any", "", "int float64 I N bool string"},
		{`"a":int`, "int any", "", "string T bool uint8 []uint8"},
		{"5:string 5:T", "any", "[]uint8", "int float64 bool"},
		{"true:int", "int", "", "bool Yes uint8"},
		{"300:int8", "int8", "", "int float64 uint8"},
		{"-1:uint8", "uint8", "", "int B"},
		{"0.5:int", "int", "", "float64 uint8"},
		{"1e300:float32", "float32", "", "float64"},
		{"5:nil", "*int any", "", "int float64"},
		{"5:void 5:Num", "", "", "int float64 N"},
	})
}

// A type parameter may have the name of a basic type: it is none by that.
func TestParametersNamedAsBasics(t *testing.T) {
	e := made(t, nil, api.Var{Name: "int", Type: anything}, api.Var{Name: "string", Type: unionOf(text)}, api.Var{Name: "bool", Type: unionOf(integer)})
	five, word := literal(t, "5"), literal(t, `"a"`)
	for i, row := range []struct {
		c              api.Const
		from, to       api.Type
		may, canBeMade bool
	}{
		{five, untyped("int"), param("int"), false, false}, {five, integer, param("int"), false, false}, {none, integer, param("int"), false, false}, {none, param("int"), integer, false, false},
		{word, untyped("string"), param("string"), true, true}, {none, text, param("string"), false, true}, {none, param("string"), text, false, true}, {none, param("string"), slice(basic("uint8")), false, true},
		{five, untyped("int"), param("bool"), true, true}, {literal(t, "true"), untyped("bool"), param("bool"), false, false}, {literal(t, "true"), basic("bool"), param("bool"), false, false},
	} {
		if may, converts := assign.May(e, row.c, row.from, row.to), assign.Converts(e, row.c, row.from, row.to); may != row.may || converts != row.canBeMade {
			t.Errorf("P16.1, P16.2: %d is %v, %v", i, may, converts)
		}
	}
	if assign.Compares(e, param("int"), param("int"), true) || assign.Compares(e, param("int"), param("int"), false) || !assign.Compares(e, param("string"), param("string"), true) || assign.Compares(e, param("int"), integer, false) {
		t.Error("P16.2: type parameters named as basic types")
	}
}

// What goes by its type alone hangs on no constant, but one that may not be goes nowhere.
func TestConstantsThatMayNotBe(t *testing.T) {
	w := declared(t, all)
	long := make([]byte, api.MaxText+1)
	great := ratio.Whole(api.Big{Mag: append(make([]uint32, api.MaxBits/32), 1)})
	one := ratio.Whole(bigint.Of(1))
	refused := []api.Const{
		{Kind: api.CString, Text: string(long)}, {Kind: api.CInt, Num: great}, {Kind: api.CFloat, Num: great},
		{Kind: api.CFloat, Num: api.Rat{Num: one.Num, Den: great.Num}},
		{Kind: api.CInt, Num: api.Rat{Num: bigint.Of(1), Den: bigint.Of(2)}},
		{Kind: api.CInt, Num: one, Text: "a"}, {Kind: api.CInt, Num: one, Bool: true}, {Kind: api.CBool, Num: one}, {Kind: api.CString, Num: one},
		{Kind: api.CBool, Text: "a"}, {Kind: api.CString, Bool: true}, {Kind: -1, Num: one}, {Kind: 5, Num: one}, {Kind: 100}, {Kind: -1 << 63}, {Kind: 1<<63 - 1},
	}
	froms := "untyped+int untyped+float untyped+bool untyped+string int float64 string bool []int any N Every nil Val"
	tos := "int float64 string bool any []uint8 []int N Every *int Face F"
	for i, c := range refused {
		for _, from := range fields(froms) {
			for _, to := range fields(tos) {
				x, y := w.says(t, from), w.says(t, to)
				if assign.May(w.Env, c, x, y) || assign.Converts(w.Env, c, x, y) {
					t.Errorf("P16.1, P16.2: a constant that may not be (%d) goes from %s to %s", i, from, to)
				}
			}
		}
	}
}

// Numbers are the same in all terms, and in those with zeros ahead.
func TestOtherTerms(t *testing.T) {
	w := declared(t, all)
	six, three, two := bigint.Of(6), bigint.Of(3), bigint.Of(2)
	ahead := api.Big{Mag: []uint32{2, 0, 0}}
	for i, row := range []struct {
		c    api.Const
		from string
		may  bool
	}{
		{api.Const{Kind: api.CInt, Num: api.Rat{Num: six, Den: three}}, "untyped+int", true},
		{api.Const{Kind: api.CInt, Num: api.Rat{Num: ahead}}, "untyped+int", true},
		{api.Const{Kind: api.CFloat, Num: api.Rat{Num: six, Den: three}}, "untyped+float", true},
		{api.Const{Kind: api.CFloat, Num: api.Rat{Num: three, Den: ahead}}, "untyped+float", false},
		{api.Const{Kind: api.CFloat, Num: api.Rat{Num: three, Den: two}}, "untyped+float", false},
		{api.Const{Kind: api.CInt}, "untyped+int", true},
		{api.Const{Kind: api.CFloat}, "untyped+float", true},
	} {
		x := w.says(t, row.from)
		for _, to := range fields("int8 uint8 Ints B") {
			if y := w.says(t, to); assign.May(w.Env, row.c, x, y) != row.may || assign.Converts(w.Env, row.c, x, y) != row.may {
				t.Errorf("P16.1, P16.2: %d to %s: %v", i, to, !row.may)
			}
		}
		if y := w.says(t, "float64"); !assign.May(w.Env, row.c, x, y) {
			t.Errorf("P16.1: %d goes not to float64", i)
		}
	}
}

// What is told of no constant is told whatever stands in its other fields.
func TestNoConstant(t *testing.T) {
	w := declared(t, all)
	c := api.Const{Text: "a", Bool: true, Num: ratio.Whole(bigint.Of(300))}
	for from, to := range map[string]string{"int": "int", "[]int": "L", "Val": "Face", "One": "[]int"} {
		if !assign.May(w.Env, c, w.says(t, from), w.says(t, to)) {
			t.Errorf("P16.1: %s goes not to %s", from, to)
		}
	}
	if !assign.Converts(w.Env, c, integer, basic("int8")) || assign.May(w.Env, c, untyped("int"), integer) || assign.Converts(w.Env, c, untyped("string"), text) {
		t.Error("P16.2: a constant of Kind CNone is taken for one")
	}
}
