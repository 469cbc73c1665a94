package lookup_test

import (
	"fmt"
	"slices"
	"strings"
	"testing"

	"sterling/api"
	"sterling/lookup"
)

const implementing = `
	type A struct{x int}
	func (a A) M() {}
	func (a A) N(i int) A {}
	func (a *A) P() string {}
	type M interface{M()}
	type MN interface{M; N(int) A}
	type MNP interface{interface{MN}; P() string}
	type Empty interface{}
	type OtherN interface{M(); N(int) int}
	type NoResult interface{N(int)}
	type Name int
	func (n Name) Error() string {}
	type Names interface{error; M()}
	type Same M
	type Is[Q any] interface{Get() Q; Put(Q, []Q)}
	type Box[Q any] struct{a Q}
	func (b Box[Q]) Get() Q {}
	func (b *Box[Q]) Put(q Q, r []Q) {}
	type Less[Q any] interface{Less(Q) bool}
	type Own struct{}
	func (o Own) Less(p Own) bool {}
	type Value struct{A; b int}
	type Pointer struct{*A}
	type Hides struct{M int; A}
	type Meets struct{A; B}
	type B struct{}
	func (b B) M() {}
	func (b B) O() {}
	type Has struct{Names}
	type Num interface{~int | Name; M()}
	type Key interface{comparable; M()}
	type AsksMN interface{MN; ~struct{x int}}
	type Clash interface{M; interface{M() int}}
	type Self interface{M(); Self}
	type Limit interface{M(); Limit; int}
	type Grows[Q any] interface{Grows[[]Q]}
	type C comparable
	type HasSelf struct{Self; A}
	func further[P MN, Q A, R interface{M; ~int}, S any, U M, V Is[P], W interface{comparable; MN}, X Self]() {}`

func TestImplements(t *testing.T) {
	w := declared(t, implementing)
	for iface, x := range map[string]struct{ yes, no string }{
		"any":                             {"int *int []A A *A **A Meets any error M Num comparable Key P S Q R *P Clash Self Limit Grows[int] X Box[int] func() map[A]A struct{} C interface{int}", "None []None Box Box[int,int] A[int] **None struct{a+None} Box[Box]"},
		"Empty":                           {"int A *A M error P Num", "None Box"},
		"C":                               {"int []int func() A P any", "None"},
		"M":                               {"A *A M MN MNP OtherN Names Same Value *Value Pointer B Has *Has P R U W Num Key AsksMN interface{M();Z()} interface{M();int} struct{A} struct{*A} struct{MN} struct{B} *struct{Has}", "struct{M} int **A *M *P Name error any Hides *Hides Meets *Meets Q S X V Self Limit Clash struct{A;B} struct{A;M} Box[int] Own *MNP []A struct{*M}"},
		"interface{M()}":                  {"A M MN Same P", "Name any Hides"},
		"interface{M; Same}":              {"A M MN Same P", "Name any Hides"},
		"MN":                              {"A *A MN MNP Value Pointer P W AsksMN interface{MN;Z()}", "M OtherN Has B U R Name Q"},
		"MNP":                             {"*A MNP *Value Pointer *Pointer struct{*A} *struct{A} struct{*Value}", "A Value P MN struct{A} struct{Value} **A W"},
		"OtherN":                          {"OtherN", "A *A MN P NoResult"},
		"NoResult":                        {"NoResult interface{N(int);M()}", "A *A MN OtherN P"},
		"error":                           {"error Name *Name Names Has struct{Name} struct{error;a+int} interface{error}", "A any *error M interface{Error()} interface{Error()int} P"},
		"Names":                           {"Names Has interface{error;M} struct{Name;B} *struct{*Name;A}", "Name A M error struct{error;M;A}"},
		"Is[int]":                         {"*Box[int] Is[int] interface{Is[int];M} struct{embed+*Box[int]}", "Box[int] *Box[string] Is[string] *Box[[]int] V Box int Is[P] struct{embed+Box[int]}"},
		"Is[P]":                           {"*Box[P] Is[P] V", "*Box[int] *Box[Q] Is[Q] Box[P]"},
		"Is[Box[int]]":                    {"*Box[Box[int]]", "*Box[int] *Box[*Box[int]]"},
		"Less[Own]":                       {"Own *Own struct{Own} Less[Own]", "A Less[int] Less[A] Less[*Own]"},
		"Same":                            {"A M Same P", "Name Same2 any"},
		"interface{Get() A; Put(A, []A)}": {"*Box[A] Is[A]", "Box[A] *Box[*A] Is[*A]"},
	} {
		w.expectImplements(t, true, iface, strings.Fields(x.yes)...)
		w.expectImplements(t, false, iface, strings.Fields(x.no)...)
		w.expectMissing(t, "", iface, strings.Fields(x.yes)...)
	}
	// A constraint is implemented by none, nor is what is no interface, or has no set.
	for _, iface := range strings.Fields("comparable Num Key AsksMN interface{int} interface{M();~int} interface{Num} interface{comparable} interface{M();Key} A *A *M []M int func() struct{} struct{M} P Q R S U W X *P Clash Self Limit Grows[int]" +
		" interface{Self} interface{M;Clash} None *None Is Is[int,int] M[int] interface{None} interface{M()None} interface{M()} Box") {
		want := iface == "interface{M()}"
		w.expectImplements(t, want, iface, "A", "M", "P", "B", "W", "Has")
		w.expectImplements(t, false, iface, "int", "error", "*M", "None", "S")
		if !want {
			w.expectImplements(t, false, iface, "any", "Num", "Key", "AsksMN", "R", "Self", "Limit", "comparable", iface)
		}
	}
}

func TestMissing(t *testing.T) {
	w := declared(t, implementing)
	for _, x := range []struct{ iface, want, all string }{
		{"MNP", "", "*A MNP *Value Pointer"},
		{"MNP", "P", "A Value P MN struct{A} W"}, {"MNP", "N", "B M Num R U Key OtherN Has"}, {"MNP", "M", "int Hides Meets error *M NoResult any Clash Self None Box []None *P Q X"},
		{"interface{A(); M(); Z()}", "A", "A B int P None A[int]"}, {"interface{M(); N(int) A; Z()}", "Z", "A *A Value P MN"}, {"interface{M(); O(); Z()}", "O", "A P"}, {"interface{M(); O(); Z()}", "Z", "B *B struct{*B}"},
		{"OtherN", "N", "A *A P MN B"}, {"NoResult", "N", "A *A OtherN int"}, {"interface{M() int; N()}", "M", "A B M P int"}, {"interface{N(int) A; P()}", "P", "A *A *Value"}, {"interface{P() string; Q()}", "P", "A B Value"}, {"interface{P() string; Q()}", "Q", "*A Pointer"},
		{"error", "Error", "A any int interface{Error()} *error None"}, {"error", "", "Name error Has *Name Names"}, {"Names", "Error", "A M int"}, {"Names", "M", "error Name struct{A;B;Name}"},
		{"Is[int]", "Put", "Box[int] struct{embed+Box[int]}"}, {"Is[int]", "Get", "*Box[string] V int Is[string]"}, {"Is[P]", "", "*Box[P] V Is[P]"}, {"interface{x()}", "x", "A Value"}, {"interface{A()}", "A", "Value Pointer"},
		// Of a constraint those of its methods.
		{"Num", "M", "int Name error any None"}, {"Num", "", "A B P R Num M"}, {"Key", "M", "int comparable"}, {"Key", "", "A M"}, {"AsksMN", "M", "int struct{x+int}"}, {"AsksMN", "N", "B U"}, {"AsksMN", "", "A MN"},
		{"comparable", "", "int A []int None any"}, {"interface{int}", "", "int A []int None"}, {"any", "", "int A None Box any *P"}, {"interface{Z(); int}", "Z", "int A"},
		// Of what is no interface, or has no set, nothing is missing.
		{"A", "", "int A B None"}, {"*M", "", "int A"}, {"[]M", "", "int"}, {"P", "", "int A P"}, {"R", "", "int A R"}, {"X", "", "int"}, {"struct{M}", "", "int A"}, {"Clash", "", "int A"}, {"Self", "", "int A"}, {"Limit", "", "int A"}, {"Grows[int]", "", "int"},
		{"None", "", "int A None"}, {"Is", "", "int"}, {"M[int]", "", "int"}, {"interface{M(); Z() None}", "", "int A"}, {"interface{M; Clash}", "", "int"},
	} {
		w.expectMissing(t, x.want, x.iface, strings.Fields(x.all)...)
	}
}

// The first one by its bytes, of many; and each that is missing alone.
func TestMissingOfMany(t *testing.T) {
	const count = 300
	var names []string
	for i := range count {
		names = append(names, fmt.Sprintf("%c%d", "MNaz_"[i%5], i))
	}
	slices.Sort(names)
	face := api.Type{Kind: api.KInterface, Names: names, Args: slices.Repeat([]api.Type{nullary}, count)}
	var own []api.Method
	for _, name := range names {
		own = append(own, method(name, false, nullary))
	}
	slices.Reverse(own)
	for i := 0; i < count; i += 7 {
		less := slices.Delete(slices.Clone(own), i, i+1)
		ptr, other := slices.Clone(own), slices.Clone(own)
		ptr[i].Ptr, other[i].Sig = true, function(void, integer)
		// Some others that stand behind it are missing, too.
		for k := i - 3; k >= 0; k -= 11 {
			less[k].Name, ptr[k].Ptr, other[k].Sig = fmt.Sprintf("other%d", k), true, function(integer)
		}
		// Reversed, what stands ahead in the list is behind by bytes.
		want := names[count-1-i]
		e := made(t, []api.Decl{{Name: "p.All", Under: integer, Methods: own}, {Name: "p.Less", Under: integer, Methods: less}, {Name: "p.Ptr", Under: integer, Methods: ptr}, {Name: "p.Other", Under: integer, Methods: other}})
		for name, missing := range map[string]string{"p.All": "", "p.Less": want, "p.Ptr": want, "p.Other": want} {
			if got := lookup.Missing(e, named(name), face); got != missing || lookup.Implements(e, named(name), face) != (missing == "") {
				t.Errorf("P15.2: Missing(%s) is %q, not %q", name, got, missing)
			}
		}
		if lookup.Missing(e, pointer(named("p.Ptr")), face) != "" || lookup.Missing(e, pointer(named("p.Less")), face) != want {
			t.Error("P15.2: Missing of a pointer")
		}
	}
}
