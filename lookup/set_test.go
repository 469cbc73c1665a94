package lookup_test

import (
	"fmt"
	"slices"
	"strings"
	"testing"

	"sterling/api"
	"sterling/lookup"
)

func TestSet(t *testing.T) {
	w := declared(t, `
		type A struct{x int; V1 int}
		func (a A) V() {}
		func (a *A) P() {}
		type List []int
		func (l *List) Add(i int) {}
		func (l List) Len() int {}
		type Face interface{M(); N(a int)}
		type Same Face
		type SameA A
		type Wide interface{Face; error; interface{X()}}
		type Is[Q any] interface{Get() Q; Is2[[]Q]}
		type Is2[Q any] interface{Put(Q)}
		type ByValue struct{a int; A}
		type ByPointer struct{*A}
		type Deep struct{ByValue; List}
		type ToDeep struct{*Deep}
		type HasFace struct{Face}
		type ToFace struct{*Face}
		type HasIs struct{embed Is[int]; A}
		type At *A
		type HasAt struct{At}
		type Box[Q any] struct{a Q}
		func (b Box[Q]) Get() Q {}
		func (b *Box[Q]) Put(q Q) {}
		type HasBox struct{embed Box[int]; embedToo *List}
		type Num interface{~int; M()}
		type Clash interface{Face; interface{M() int}}
		type Self interface{M(); Self}
		type HasClash struct{Clash; A}
		func further[P Face, Q A, R interface{Face; ~int; V()}, S Self, U any, V P, W comparable]() {}`)
	w.expectSet(t, map[string]string{
		"A": "V", "*A": "P V", "**A": "", "[]A": "", "List": "Len", "*List": "Add Len", "SameA": "", "*SameA": "",
		"Face": "M N", "*Face": "", "Same": "M N", "Wide": "Error M N X", "error": "Error", "*error": "", "any": "", "comparable": "", "Is[int]": "Get Put", "*Is[int]": "", "Num": "M", "Clash": "", "Self": "",
		"interface{Z(); M(); error}": "Error M Z", "interface{A(); int}": "A",
		"ByValue": "V", "*ByValue": "P V", "ByPointer": "P V", "*ByPointer": "P V", "Deep": "Len V", "*Deep": "Add Len P V", "ToDeep": "Add Len P V", "*ToDeep": "Add Len P V",
		"struct{A}": "V", "*struct{A}": "P V", "struct{*A}": "P V", "struct{ByPointer; List}": "Len P V", "struct{*ByValue; b int}": "P V", "struct{ByValue; b int; *List}": "Add Len V", "**struct{*A}": "", "[1]struct{A}": "",
		"HasFace": "M N", "*HasFace": "M N", "struct{*HasFace}": "M N", "ToFace": "", "*ToFace": "", "struct{Face; A}": "M N V", "*struct{error; A}": "Error P V", "HasIs": "Get Put V", "struct{embed *HasIs}": "Get P Put V", "HasClash": "V",
		"At": "", "*At": "", "HasAt": "", "struct{*At}": "", "Box[string]": "Get", "*Box[string]": "Get Put", "HasBox": "Add Get Len", "*HasBox": "Add Get Len Put", "struct{embed *Box[Face]}": "Get Put",
		"P": "M N", "Q": "", "R": "M N V", "S": "", "U": "", "V": "", "W": "", "*P": "", "[]P": "", "*Q": "",
		"int": "", "*int": "", "struct{}": "", "struct{a int; b A}": "", "func()": "", "map[A]A": "", "None": "", "*None": "", "Box": "", "struct{None}": "", "A[int]": "",
	})
}

// Names that hide one another, and such as meet at one depth.
func TestSetOfWhatHidesOthers(t *testing.T) {
	w := declared(t, `
		type A struct{x int}
		func (a A) M() {}
		func (a A) x2() {}
		type B struct{}
		func (b *B) M() {}
		func (b *B) N() {}
		type Own struct{A}
		func (o *Own) M(i int) {}
		type Field struct{M int; A; N bool}
		type InA struct{A}
		type Two struct{A; B}
		type Far struct{Two; InInA}
		type InInA struct{InA}
		type L struct{A}
		type R struct{*A; *B}
		type Roads struct{L; R}
		type Face interface{M(); O()}
		type Both struct{O int; A}
		func (b Both) O() {}
		type Ring struct{*Ring; A; *Around}
		type Around struct{*Ring; B}
		func (a *Around) O() {}
		type Grows[P any] struct{embed *Grows[[]P]; embedToo Box[P]}
		type Box[P any] struct{Y int}
		func (b *Box[P]) Get() P {}
		func (b Box[P]) X() P {}
		type Boxes struct{embed Box[int]; Z}
		type Z struct{embed Box[string]; W int}
		type Named struct{Get; embed Box[int]}
		type Get int
		func (g Get) Y() {}`)
	w.expectSet(t, map[string]string{
		"Own": "x2", "*Own": "M x2", "Field": "x2", "*Field": "x2", "struct{Field; B}": "x2", "*struct{Field; B}": "x2", "struct{InA; *B}": "M N x2", "struct{InA; B}": "x2", "*struct{InA; B}": "M N x2", "struct{Field; *B}": "x2",
		"struct{M int; A; *B}": "N x2", "Two": "x2", "*Two": "N x2", "Far": "x2", "*Far": "N x2", "Roads": "N", "*Roads": "N", "struct{L; R; A}": "M N x2", "struct{L; R; *B}": "M N", "struct{Face; A}": "O x2", "struct{Face; InA}": "M O x2", "struct{InInA; Face; B}": "O x2",
		"Both": "M x2", "*Both": "M x2", "struct{Both; Face}": "M x2", "Ring": "M N O x2", "*Ring": "M N O x2", "Around": "x2", "*Around": "M N O x2", "struct{*Around; a int}": "M N O x2",
		"Grows[int]": "X", "*Grows[int]": "Get X", "struct{embed *Grows[A]}": "Get X", "Boxes": "X", "*Boxes": "Get X", "struct{embed *Boxes; X int}": "Get", "Named": "X", "*Named": "X", "struct{*Named; Y int}": "X",
		"struct{N A; *B}": "M", "struct{M A; *B}": "N", "struct{M A; N B}": "",
	})
}

// The order is that of bytes.
func TestSetInOrder(t *testing.T) {
	names := strings.Fields("b a B A ab a1 a_ a aB Z _a A9 A10 __ zz é Ab z10 z9")
	names = slices.DeleteFunc(slices.Compact(names), func(name string) bool { return name == "é" })
	slices.Sort(names)
	names = slices.Compact(names)
	under := api.Type{Kind: api.KInterface}
	var own, half []api.Method
	var values, halves []string
	for i, name := range names {
		own = append(own, method(name, i%2 == 0, nullary))
		if i%2 > 0 {
			values = append(values, name)
		}
		if i%3 > 0 {
			half, halves = append(half, method(name, false, nullary)), append(halves, name)
		}
		under.Names, under.Args = append(under.Names, name), append(under.Args, nullary)
	}
	slices.Reverse(own)
	e := made(t, []api.Decl{{Name: "p.T", Under: integer, Methods: own}, {Name: "p.Face", Under: under}, {Name: "p.Half", Under: structOf(embedded(named("p.Face"))), Methods: half}, {Name: "p.In", Under: structOf(embedded(named("p.T")))}})
	for _, x := range []struct {
		t    api.Type
		want []string
	}{
		{named("p.T"), values}, {pointer(named("p.T")), names}, {named("p.Face"), names}, {named("p.Half"), names}, {named("p.In"), values}, {structOf(embedded(pointer(named("p.T")))), names}, {structOf(embedded(pointer(named("p.In"))), embedded(named("p.Half"))), halves},
	} {
		if got := lookup.Set(e, x.t); !slices.Equal(got, x.want) {
			t.Errorf("P15.2: Set is %q, not %q", got, x.want)
		}
	}
}

// A word may be a method's name; `_` is none.
func TestSetOfWordsAndBlanks(t *testing.T) {
	e := made(t, []api.Decl{{Name: "p.T", Under: integer, Methods: []api.Method{method("type", false, nullary), method("_", false, nullary), method("func", true, nullary)}}})
	if got := fmt.Sprint(lookup.Set(e, named("p.T")), lookup.Set(e, pointer(named("p.T")))); got != "[type] [func type]" {
		t.Errorf("P15.2: Set of words is %s", got)
	}
	if tell(e, named("p.T"), "_") != "nothing" || tell(e, named("p.T"), "func") != "*method [] func()" {
		t.Error("P15.1: Find of words")
	}
}

func TestSetOfLongChains(t *testing.T) {
	const length = 20000
	decls := chained(length, false, api.Decl{Under: integer, Methods: []api.Method{method("V", false, nullary), method("P", true, nullary)}})
	for i := range decls[:length] {
		decls[i].Methods = []api.Method{method(fmt.Sprintf("M%d", i%7), false, nullary), method(fmt.Sprintf("N%d", i), i > 2, nullary)}
	}
	e := made(t, decls)
	if got := fmt.Sprint(lookup.Set(e, named("p.T0"))); got != "[M0 M1 M2 M3 M4 M5 M6 N0 N1 N2 V]" {
		t.Errorf("P15.2: Set of a chain is %.300s", got)
	}
	all := lookup.Set(e, pointer(named("p.T0")))
	if len(all) != 7+length+2 || !slices.IsSorted(all) || !slices.Contains(all, "N19999") || !slices.Contains(all, "P") {
		t.Errorf("P15.2: Set of a pointer to a chain has %d names", len(all))
	}
	want := interfaceOf("P", nullary)
	if lookup.Implements(e, named("p.T0"), want) || !lookup.Implements(e, pointer(named("p.T0")), want) || lookup.Missing(e, named("p.T0"), want) != "P" {
		t.Error("P15.2: Implements of a chain")
	}
}
