package typeset_test

import (
	"fmt"
	"testing"

	"sterling/api"
	"sterling/env"
	"sterling/types"
	"sterling/typeset"
)

// Which methods a type has is asked by interfaces of one method each.

func TestMethodsByEmbedding(t *testing.T) {
	w := declared(t, `
		type V int
		func (v V) M() {}
		func (v *V) P() {}
		type Face interface{I(); J(int)}
		type ByValue struct{V}
		type ByPointer struct{*V}
		type Deep struct{a int; ByValue}
		type Deeper struct{*Deep}
		type Same Deep
		type Own struct{V}
		func (o *Own) M() {}
		type OwnOther struct{V; b int}
		func (o OwnOther) M(a int) {}
		type Field struct{M int; V}
		type HasFace struct{Face}
		type ToFace struct{*Face}
		type At *V
		type HasAt struct{At}
		type ToAt struct{*At}
		type Table map[int]V`)
	for c, x := range map[string]struct{ yes, no string }{
		"interface{M()}": {"V *V ByValue *ByValue ByPointer *ByPointer Deep *Deep Deeper *Deeper Same *Same *Own struct{V} struct{*V} *struct{V} struct{ByValue} struct{Same} struct{*Own} struct{Deeper}",
			"Own struct{Own} OwnOther *OwnOther Field *Field struct{Field} At HasAt ToAt *At Table struct{Table} **V *[]V struct{HasAt} **struct{V}"},
		"interface{P()}": {"*V *ByValue ByPointer *ByPointer *Deep Deeper *Deeper *Same *Own *OwnOther *Field struct{*V} *struct{V} struct{*ByValue} *struct{ByValue} struct{ByPointer} struct{Deeper} struct{*Field}",
			"V ByValue Deep Same Own OwnOther Field struct{V} struct{ByValue} At HasAt **V"},
		"interface{M(int)}":      {"OwnOther *OwnOther struct{OwnOther} struct{*OwnOther}", "V Own Field"},
		"interface{I()}":         {"Face HasFace *HasFace struct{Face} struct{HasFace} struct{*HasFace} *struct{Face}", "*Face ToFace *ToFace struct{*Face} struct{ToFace} **HasFace"},
		"interface{I(); J(int)}": {"HasFace struct{HasFace} struct{Face}", "ToFace"},
		"interface{I(); M()}":    {"struct{Face;V} struct{HasFace;Deeper}", "HasFace Deeper"},
		"interface{M(); P()}":    {"*V *Deep struct{*V} Deeper", "V Deep"},
	} {
		w.expectSatisfies(t, true, c, words(x.yes)...)
		w.expectSatisfies(t, false, c, words(x.no)...)
	}
}

// At the least depth there is just one; what is deeper doesn't count.
func TestMethodsThatHideOthers(t *testing.T) {
	w := declared(t, `
		type A int
		func (a A) M() {}
		type B int
		func (b B) M() {}
		func (b *B) N() {}
		type C struct{}
		func (c *C) M(a int) {}
		type D struct{B}
		type E struct{D}
		type F struct{N int}
		type Face interface{M()}
		type Twice struct{L; R}
		type L struct{A}
		type R struct{A}
		type Thrice struct{L; R; A}
		type Under struct{Twice}
		type Higher struct{Twice; H}
		type H struct{A}
		type Ring struct{*Ring; A}
		type Ringed struct{*Round}
		type Round struct{*Ringed; B}
		type Mixed struct{M int; a int}
		func (m Mixed) M() {}
		type Others struct{_ int; _ A; B}
		type Loop struct{Loop; A}`)
	for c, x := range map[string]struct{ yes, no string }{
		"interface{M()}": {"struct{A} struct{A;E} struct{A;D} struct{D;E} struct{E;A} struct{Face} struct{A;F} Thrice *Thrice Ring *Ring Ringed Round struct{Face;D} Others Higher struct{Twice;A} Loop struct{E;F}",
			"struct{A;B} struct{A;C} *struct{A;C} struct{A;Face} struct{M+int;A} struct{C;D} struct{C;A} struct{L;C;A} Twice *Twice Under struct{L;R} struct{D;L} struct{*A;*B} Mixed struct{Mixed} struct{Twice} struct{L;D;R}"},
		"interface{M(int)}": {"*C struct{*C} *struct{C;D} struct{*C;Twice}", "C struct{C;D} *struct{A;C} struct{*C;*B}"},
		"interface{N()}": {"*B *D *E *struct{E} struct{*E;a+int} *struct{E;L} Ringed *Round *Others",
			"B D struct{F;B} struct{*F;*B} *struct{D;F} *struct{F;E} Round struct{N+int;*B}"},
	} {
		w.expectSatisfies(t, true, c, words(x.yes)...)
		w.expectSatisfies(t, false, c, words(x.no)...)
	}
}

// methodOf is a method of a declaration, with a value or a pointer as its receiver.
func methodOf(name string, isPtr bool, sig api.Type) api.Method {
	return api.Method{Name: name, Ptr: isPtr, Sig: sig}
}

func asks(name string, sig api.Type) api.Type { return interfaceOf(name, sig) }

func TestMethodsOfInstances(t *testing.T) {
	a, b := param("p.Box#0"), param("p.Pair#1")
	box := api.Decl{Name: "p.Box", Params: []api.Type{anything}, Under: structOf(false, "a", a), Methods: []api.Method{
		methodOf("Get", false, function(a)), methodOf("Put", true, function(void, a, named("p.Box", slice(a))))}}
	pair := api.Decl{Name: "p.Pair", Params: []api.Type{anything, anything}, Under: embedding(named("p.Box", b), named("q.Face", param("p.Pair#0")))}
	face := api.Decl{Name: "q.Face", Params: []api.Type{anything}, Under: asks("Give", function(slice(param("q.Face#0"))))}
	to := api.Decl{Name: "p.To", Params: []api.Type{anything}, Under: embedding(pointer(named("p.Box", pointer(param("p.To#0")))))}
	e, ok := env.New([]api.Decl{box, pair, face, to}, []api.Var{{Name: "P", Type: anything}})
	if !ok {
		t.Fatal("P13.1")
	}
	is := named("p.Pair", integer, text)
	for _, x := range []struct {
		t, c api.Type
		want bool
	}{
		{named("p.Box", integer), asks("Get", function(integer)), true}, {named("p.Box", integer), asks("Get", function(text)), false}, {named("p.Box", integer), asks("Get", function(a)), false},
		{named("p.Box", param("P")), asks("Get", function(param("P"))), true}, {named("p.Box", a), asks("Get", function(a)), true},
		{pointer(named("p.Box", text)), asks("Put", function(void, text, named("p.Box", slice(text)))), true}, {named("p.Box", text), asks("Put", function(void, text, named("p.Box", slice(text)))), false},
		{is, asks("Get", function(text)), true}, {is, asks("Get", function(integer)), false}, {is, asks("Give", function(slice(integer))), true}, {is, asks("Give", function(slice(text))), false},
		{pointer(is), asks("Put", function(void, text, named("p.Box", slice(text)))), true}, {is, asks("Put", function(void, text, named("p.Box", slice(text)))), false},
		{embedding(is), asks("Get", function(text)), true}, {named("p.To", integer), asks("Get", function(pointer(integer))), true},
		{named("p.To", integer), asks("Put", function(void, pointer(integer), named("p.Box", slice(pointer(integer))))), true}, {named("p.To", integer), asks("Get", function(integer)), false},
		{is, named("q.Face", integer), true}, {is, named("q.Face", text), false}, {embedding(named("q.Face", integer)), named("q.Face", integer), true},
		{pointer(named("q.Face", integer)), named("q.Face", integer), false}, {embedding(pointer(named("q.Face", integer))), named("q.Face", integer), false},
	} {
		if typeset.Satisfies(e, x.t, x.c) != x.want {
			t.Errorf("P14.2: Satisfies(%s, %s) is %v", types.Text(x.t), types.Text(x.c), !x.want)
		}
	}
}

// Two of one declaration at one depth are two, whatever their arguments are; one at a greater depth is hidden.
func TestMethodsOfSeveralInstances(t *testing.T) {
	box := api.Decl{Name: "p.Box", Params: []api.Type{anything}, Under: structOf(false, "a", integer), Methods: []api.Method{methodOf("Get", false, function(param("p.Box#0")))}}
	declared := []api.Decl{box}
	for name, x := range map[string]api.Type{
		"p.A": embedding(named("p.Box", integer)), "p.B": embedding(named("p.Box", text)), "p.C": embedding(named("p.Box", integer)),
		"p.D": embedding(named("p.A"), named("p.B")), "p.E": embedding(named("p.A"), named("p.C")), "p.F": embedding(named("p.A"), named("p.Box", text)),
		"p.G": embedding(named("p.D"), named("p.A")), "p.H": embedding(named("p.D"), named("p.B")),
	} {
		declared = append(declared, api.Decl{Name: name, Under: x})
	}
	e, ok := env.New(declared, nil)
	if !ok {
		t.Fatal("P13.1")
	}
	for name, want := range map[string]string{"p.A": "int", "p.B": "string", "p.D": "", "p.E": "", "p.F": "string", "p.G": "int", "p.H": "string"} {
		for _, given := range []api.Type{integer, text} {
			if typeset.Satisfies(e, named(name), asks("Get", function(given))) != (given.Name == want) {
				t.Errorf("P14.2: Get of %s is not %q", name, want)
			}
		}
	}
}

// A struct may embed a pointer to itself, with other arguments each time: the search for its methods ends.
func TestMethodsOfGrowingTypes(t *testing.T) {
	var declared []api.Decl
	const count = 40
	for i := range count {
		name := fmt.Sprintf("p.T%d", i)
		own := param(name + "#0")
		next, other := fmt.Sprintf("p.T%d", (i+1)%count), fmt.Sprintf("p.T%d", (i+2)%count)
		d := api.Decl{Name: name, Params: []api.Type{anything}, Under: embedding(pointer(named(next, slice(own))), pointer(named(other, pointer(own))))}
		if i == count-1 {
			d.Under.Names, d.Under.Emb = append(d.Under.Names, "End"), append(d.Under.Emb, true)
			d.Under.Args = append(d.Under.Args, named("p.End"))
		}
		declared = append(declared, d)
	}
	declared = append(declared, api.Decl{Name: "p.End", Under: integer, Methods: []api.Method{methodOf("M", false, function(void))}})
	declared = append(declared, api.Decl{Name: "p.Self", Params: []api.Type{anything}, Under: embedding(pointer(named("p.Self", slice(param("p.Self#0")))), named("p.End"))})
	e, ok := env.New(declared, nil)
	if !ok {
		t.Fatal("P13.1")
	}
	for name, want := range map[string]bool{"p.T39": true, "p.T38": true, "p.T0": false, "p.Self": true} {
		x := named(name, integer)
		if typeset.Satisfies(e, x, asks("M", function(void))) != want || typeset.Satisfies(e, x, asks("N", function(void))) {
			t.Errorf("P14.2: methods of %s", name)
		}
	}
}

// At each depth there are two declared types, each of which embeds both of the next depth.
func TestMethodsByManyRoads(t *testing.T) {
	const depth = 60
	var declared []api.Decl
	for i := range depth {
		for _, side := range []string{"A", "B"} {
			d := api.Decl{Name: fmt.Sprintf("p.%s%d", side, i), Under: embedding(pointer(named(fmt.Sprintf("p.A%d", i+1))), named(fmt.Sprintf("p.B%d", i+1)))}
			if i == depth-1 {
				d.Under = integer
			}
			if i == depth-1 || i == 2 && side == "A" {
				d.Methods = []api.Method{methodOf(fmt.Sprintf("M%d", i), false, function(void))}
			}
			declared = append(declared, d)
		}
	}
	e, ok := env.New(declared, nil)
	if !ok {
		t.Fatal("P13.1")
	}
	for name, want := range map[string]map[string]bool{"p.A1": {"M2": true, "M59": false}, "p.A0": {"M2": false}, "p.A2": {"M2": true}, "p.A59": {"M59": true}, "p.B2": {"M2": false}} {
		for method, has := range want {
			if typeset.Satisfies(e, named(name), asks(method, function(void))) != has {
				t.Errorf("P14.2: %s has %s: %v", name, method, !has)
			}
		}
	}
}

func TestMethodsOfLongChains(t *testing.T) {
	const length = 20000
	var declared []api.Decl
	for i := range length {
		next := named(fmt.Sprintf("p.I%d", i+1))
		d := api.Decl{Name: fmt.Sprintf("p.I%d", i), Under: embedding(next)}
		if i == length-1 {
			d = api.Decl{Name: d.Name, Under: integer, Methods: []api.Method{methodOf("M", false, function(void)), methodOf("P", true, function(void))}}
		}
		declared = append(declared, d)
	}
	e, ok := env.New(declared, nil)
	if !ok {
		t.Fatal("P13.1")
	}
	x := named("p.I0")
	for name, want := range map[string][2]bool{"M": {true, true}, "P": {false, true}, "N": {false, false}} {
		c := asks(name, function(void))
		if typeset.Satisfies(e, x, c) != want[0] || typeset.Satisfies(e, pointer(x), c) != want[1] {
			t.Errorf("P14.2: %s of a long chain", name)
		}
	}
}

// What an interface that is embedded in a struct can't tell is not there; what stands beside it is.
func TestMethodsBesideWhatCantBeTold(t *testing.T) {
	w := declared(t, `
		type V int
		func (v V) M() {}
		type Self interface{M(); Self}
		type Clash interface{M(); interface{M() int}}
		type Loop Loop
		type Num interface{int; M()}
		func (n Num) X() {}`)
	w.expectSatisfies(t, true, "interface{M()}", "struct{Self;V}", "struct{Clash;V}", "struct{Loop;V}", "struct{comparable;V}", "struct{Num}", "struct{*Num;V}")
	w.expectSatisfies(t, false, "interface{M()}", "struct{Self}", "struct{Clash}", "struct{Loop}", "struct{Num;V}", "struct{*Num}")
	w.expectSatisfies(t, false, "interface{X()}", "struct{Num}", "struct{*Num}")
	w.expectSatisfies(t, true, "any", "struct{Self}", "struct{Loop}", "struct{Num}")
}
