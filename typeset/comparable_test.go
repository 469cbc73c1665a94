package typeset_test

import (
	"fmt"
	"strings"
	"testing"

	"sterling/api"
	"sterling/env"
	"sterling/types"
	"sterling/typeset"
)

func TestComparable(t *testing.T) {
	w := declared(t, `
		type My int
		type Text string
		type List []int
		type Table map[int]int
		type Run func()
		type At *List
		type Rows struct{a int; b [2]string; At}
		type Bad struct{a int; List}
		type Face interface{List() []int; M()}
		type Key comparable
		type Box[A any] struct{a A}
		type Pair[A any, B any] struct{a Box[A]; b [0]B}
		type To[A any] struct{a *A}
		type Other Box[Face]
		type Chain struct{next *Chain; a any}
		type Loop Loop`)
	w.expectComparable(t, true, "bool", "string", "int", "int8", "uint8", "uint", "float32", "float64", "*int", "*[]int", "*func()", "*comparable", "*Loop",
		"My", "Text", "At", "Rows", "Face", "Key", "Chain", "Other", "error", "any", "interface{M()}",
		"Box[int]", "Box[Face]", "Box[Box[any]]", "Pair[int,string]", "Pair[error,Rows]", "To[[]int]", "To[Loop]", "Box[To[List]]",
		"[3]int", "[0]int", "[2][2]error", "[0]any", "[1]Face", "[1048576]My", "struct{}", "struct{a int; b string}", "struct{My; *List; error}", "struct{_ int; _ any}", "[1]struct{a [2]Rows}")
	w.expectComparable(t, false, "[]int", "[]Loop", "map[int]int", "func()", "func() int", "List", "Table", "Run", "Bad", "Loop", "comparable",
		"[3][]int", "[0][]int", "[0]func()", "[0]comparable", "[2]List", "[0]Loop", "struct{a []int}", "struct{a int; b map[int]int}", "struct{List}", "struct{_ func()}", "struct{comparable}", "struct{a Loop}",
		"Box[[]int]", "Box[List]", "Box[comparable]", "Pair[List,int]", "Pair[int,Run]", "Box[Box[Table]]", "[1]struct{a [0]Bad}", "struct{a [1]Box[List]}",
		"None", "[1]None", "*None", "struct{a None}")
	for _, x := range []struct {
		t    api.Type
		want bool
	}{
		{null, true}, {void, false}, {whole, false}, {api.Type{Kind: api.KUntyped, Name: "bool"}, false}, {api.Type{}, false}, {of(14), false}, {of(-1), false},
		{array(-1, integer), false}, {array(2, null), false}, {named("p.Box"), false}, {named("p.My", integer), false}, {basic("x"), false}, {param("P"), false}, {array(0, param("P")), false},
		{pointer(param("P")), true}, {api.Type{Kind: api.KNil, Len: 1}, false}, {api.Type{Kind: api.KPointer}, false},
	} {
		if typeset.Comparable(w.Env, x.t) != x.want {
			t.Errorf("P14.2: Comparable of %v is %v", x.t, !x.want)
		}
	}
}

// An interface that may stand only as a constraint is not comparable, wherever it stands.
func TestComparableOfConstraints(t *testing.T) {
	w := declared(t, `
		type My int
		type Face interface{M()}
		type Wide interface{Face; error; interface{N()}}
		type Key comparable
		type Keys interface{Key; Face}
		type Num interface{~int | string}
		type Same Num
		type Sames Same
		type Asks interface{comparable}
		type Leads interface{Num}
		type Far interface{Face; interface{M(); Leads}}
		type FarAsks interface{Face; interface{M(); interface{Asks}}}
		type Empty interface{int; string}
		type Is[A any] interface{A}
		type Of[A any] interface{~[]A | int}
		type In[A any] interface{M(A)}
		type InTwo[A any] interface{In[A]; Is[In[[]A]]}
		type Box[A any] struct{a A}
		type Pair[A any] struct{a int; b [2]Box[A]}
		type Two[A any, B any] struct{a A; b B}
		type Held struct{a int; Num}
		type Holder struct{a [1]Held}
		type NoHolder struct{a *Held; b []Held; c func(Num)}
		type NoHolderAtAll struct{a *Held; b interface{M(Num) Same}}
		func further[A any, B Num, C interface{Num | bool}, D interface{[2]Num}, E interface{*Num}, F Asks, G Empty, H interface{[2]Num; comparable}]() {}`)
	for _, x := range []struct {
		want bool
		all  string
	}{
		{true, "any error Face Wide Key Keys interface{Face} interface{Key} interface{Keys;error} interface{interface{}} interface{interface{error};M()} In[int] In[Num] InTwo[Num] Is[Face] Is[Key] Is[Is[any]]"},
		{false, "comparable Num Same Sames Asks Leads Far FarAsks Empty Of[int] Is[int] Is[Num] Is[comparable] Is[Is[Num]] Is[A] Is[[2]Face] interface{InTwo__0|int} interface{InTwo__0}"},
		{false, "interface{int} interface{~int} interface{int|string} interface{[]int} interface{~[]int|func()} interface{My} interface{int;string} interface{~Face} interface{Face|int} interface{Face|error} interface{~comparable}"},
		{false, "interface{comparable} interface{M();comparable} interface{Num} interface{Same} interface{Asks} interface{interface{Asks}} interface{Face;Leads} interface{Face;Key;FarAsks} interface{B} interface{A} interface{*int}"},
		{false, "Held Holder NoHolder [1]Held struct{a+int;b+Num} struct{Num} struct{error;Num} struct{a+Face;b+interface{int}} struct{a+Key;b+Asks} struct{a+Is[int]}"},
		{true, "NoHolderAtAll struct{a+*Num} *Held *Num interface{M(Num)} interface{M()Asks} [2]interface{M(Num)} E B F G H"},
		{false, "D A C"},
	} {
		for _, src := range strings.Fields(x.all) {
			w.expectComparable(t, x.want, src, "[1]"+src, "[0]"+src, "[2][3]"+src, "struct{a int; b "+src+"}", "struct{a struct{b error; c [1]"+src+"}}",
				"Box["+src+"]", "Box[Box["+src+"]]", "Pair["+src+"]", "Two[Face,"+src+"]", "Two["+src+",Key]", "[2]Two[Wide,Pair["+src+"]]")
			w.expectComparable(t, true, "*"+src, "Box[*"+src+"]", "interface{M("+src+")}")
		}
	}
	w.expectSatisfies(t, true, "comparable", "Face", "[2]Face", "Box[Wide]", "Two[Key,error]", "NoHolderAtAll")
	w.expectSatisfies(t, false, "comparable", "Num", "[2]Num", "Box[Asks]", "Two[Key,Leads]", "Held", "Holder", "D")
	w.expectSatisfies(t, true, "any", "[2]Num", "Box[Asks]", "Held")
}

// Constraint is asked of an interface to the same end as Comparable is, if its set ends.
func TestComparableAsConstraint(t *testing.T) {
	w := declared(t, `
		type Self interface{Self}
		type Ring interface{M(); Round}
		type Round interface{Ring}
		type Grows[P any] interface{Grows[[]P]}
		type Num interface{~int | string}
		type Beside interface{Num}
		type Is[A any] interface{A}`)
	for _, src := range strings.Fields("any error comparable Num Beside Self Ring Round Grows[int] Is[Self] Is[Num] interface{Self} interface{Self|int} interface{Ring;Grows[Num]} interface{Is[Beside]}") {
		want := !typeset.Constraint(w.Env, w.says(t, src)) && src != "comparable"
		w.expectComparable(t, want, src, "[2]"+src, "struct{a int; b "+src+"}")
		// What never ends beside it hides no constraint, and makes none of it.
		w.expectComparable(t, want, "struct{a Self; b "+src+"; c Grows[int]}", "struct{a Ring; b struct{c "+src+"; d error}}")
		w.expectComparable(t, false, "struct{a "+src+"; b Self; c Num}", "struct{a Num; b Ring; c "+src+"}")
	}
}

// What embeds itself, too, stands only as a constraint if it has unions, asks for comparable, or embeds what does.
func TestComparableOfConstraintsThatEmbedThemselves(t *testing.T) {
	w := declared(t, `
		type Union interface{Union; ~int | string}
		type Asks interface{Asks; comparable}
		type There interface{Back; ~int | string}
		type Back interface{There}
		type Number interface{~int | string}
		type Leads interface{Leads; Number}
		type One interface{int; One}
		type Around interface{M(); Near}
		type Near interface{interface{Around}; interface{Self; Far}}
		type Far interface{Near; Farther}
		type Farther interface{Around; interface{M(); comparable}}
		type Same Union
		type Grows[P any] interface{Grows[[]P]; ~[]P | int}
		type Grown[P any] interface{Grown[[]P]; N(P)}
		type Spreads[P any] interface{Grown[P]; Spreads[P]; comparable}
		type Deep[P any] interface{Deeper[[]P]}
		type Deeper[P any] interface{Deepest[[]P]}
		type Deepest[P any] interface{Grown[P]; P | int}
		type Self interface{Self}
		type Ring interface{M(); Round}
		type Round interface{Ring; error}
		type Key comparable
		type Keys interface{Key; Keys}
		type Box[A any] struct{a A}
		func further[P Union, Q interface{*Union}, R Number]() {}`, chain(40, 1, sets(terms(only(integer))))...)
	deep := strings.Repeat("[]", 180)
	never := strings.Fields("Union Asks There Back Leads One Around Near Far Farther Same Grows[int] Spreads[int] Deep[int] I0" +
		" interface{Self;Number} interface{Number;Self} interface{Self;comparable} interface{M();Union} interface{interface{Back}} interface{Keys;int}" +
		" interface{Deep[" + deep + "int]} interface{Deeper[" + deep + "int]} interface{Grows[" + deep + "int]}")
	always := strings.Fields("Self Ring Round Keys interface{Self;Ring} interface{Ring;M();Keys} interface{Grown[" + deep + "int];Keys}")
	for _, src := range never {
		w.expectComparable(t, false, src, "[1]"+src, "[0]"+src, "struct{f "+src+"}", "Box["+src+"]", "[2]Box[struct{a Self; b "+src+"}]")
		w.expectComparable(t, true, "*"+src, "interface{M("+src+")}")
		w.expectSatisfies(t, false, "comparable", src, "[1]"+src)
	}
	for _, src := range always {
		w.expectComparable(t, true, src, "[1]"+src, "[0]"+src, "struct{f "+src+"}", "Box["+src+"]", "[2]Box[struct{a Self; b "+src+"}]")
		w.expectSatisfies(t, true, "comparable", "[1]"+src)
	}
	// With such arguments what they embed is too great, whatever they are put for.
	deepest := integer
	for range api.MaxDepth - 3 {
		deepest = slice(deepest)
	}
	for name, want := range map[string]bool{"p.Deep": false, "p.Grows": false, "p.Grown": true} {
		if typeset.Comparable(w.Env, sets(terms(only(named(name, deepest))))) != want {
			t.Errorf("P14.2: Comparable of %s, too great, is %v", name, !want)
		}
	}
	w.expectComparable(t, false, "P", "[2]P")
	w.expectComparable(t, true, "Q", "R")
	// What else is told of them stays.
	w.expectConstraint(t, false, "Union", "Asks", "There", "Back", "Leads", "One", "Around", "Far", "Same", "Self", "Ring", "Grows[int]", "interface{Self;Number}")
	for _, src := range strings.Fields("Union Asks There Back Leads One Around Same Self Grows[int] P") {
		if tellTerms(w.Env, w.says(t, src)) != "no set" || tellMethods(w.Env, w.says(t, src)) != "no set" {
			t.Errorf("P14.1: %s has a set", src)
		}
	}
}

// What leads to more and more instances hides nothing that stands far behind them, and makes no constraint.
func TestComparableOfConstraintsBehindWideGrowth(t *testing.T) {
	w := declared(t, `
		type Wide[P any] interface{Wide[[]P]; Wide[*P]; Wide[func(P)]; N(P)}
		type Late[P any] interface{Late[[]P]; Late[*P]; Late[func(P)]; I0}
		type Other interface{I0; error}`, chain(40, 1, sets(terms(only(integer))))...)
	w.expectComparable(t, true, "Wide[int]", "[2]Wide[error]", "struct{a error; b Wide[int]}")
	w.expectComparable(t, false, "Late[int]", "[2]Late[error]", "interface{Wide[int]; Other}", "struct{a Wide[int]; b Other}", "struct{a Wide[int]; b Late[int]}")
}

// Interfaces that embed the same ones are asked in one time.
func TestComparableOfManyInterfaces(t *testing.T) {
	const length, width = 20000, 1000
	for why, x := range map[string]struct {
		last api.Type
		want bool
	}{
		"nothing": {anything, true}, "a method": {interfaceOf("M", function(void)), true}, "error": {sets(terms(only(named("error")))), true},
		"a union": {sets(terms(only(integer))), false}, "comparable": {sets(terms(only(asking))), false},
	} {
		e, ok := env.New(chain(length, 1, x.last), nil)
		if !ok {
			t.Fatal("P13.1")
		}
		rows := api.Type{Kind: api.KStruct}
		for i := range width {
			face := sets(terms(only(named(fmt.Sprintf("p.I%d", i)))))
			rows.Names, rows.Emb, rows.Args = append(rows.Names, fmt.Sprintf("f%d", i)), append(rows.Emb, false), append(rows.Args, face)
		}
		if typeset.Comparable(e, rows) != x.want {
			t.Errorf("P14.2: Comparable of %d interfaces that lead to %s is %v", width, why, !x.want)
		}
	}
}

// Interfaces that together embed more kinds of one declared type than are gone over in one time are asked one by one.
func TestComparableOfManyInstances(t *testing.T) {
	const count, width = 66, 1000
	all := api.Type{Kind: api.KStruct}
	var rows []api.Decl
	for k := range count {
		row := api.Type{Kind: api.KStruct}
		for i := range width {
			face := sets(terms(only(named("p.In", array(width*k+i, integer)))))
			row.Names, row.Emb, row.Args = append(row.Names, fmt.Sprintf("f%d", i)), append(row.Emb, false), append(row.Args, face)
		}
		rows = append(rows, api.Decl{Name: fmt.Sprintf("p.R%d", k), Under: row})
		all.Names, all.Emb, all.Args = append(all.Names, fmt.Sprintf("f%d", k)), append(all.Emb, false), append(all.Args, named(fmt.Sprintf("p.R%d", k)))
	}
	w := declared(t, "type In[A any] interface{M(A)}; type Num interface{int | string}", rows...)
	if count*width <= api.MaxCells || !typeset.Comparable(w.Env, all) {
		t.Error("P14.2: many instances are not comparable")
	}
	for _, place := range []int{0, len(all.Args) - 1} {
		with := types.Clone(all)
		with.Args[place] = array(1, named("p.Num"))
		if typeset.Comparable(w.Env, with) {
			t.Errorf("P14.2: many instances are comparable, with a constraint at %d", place)
		}
	}
}

func TestComparableParameters(t *testing.T) {
	w := declared(t, `
		type My int
		type List []int
		type Num interface{~int | string | My}
		type Box[A any] struct{a A}
		type Of[A comparable, B any, C Num, D int, E []int, F interface{B; comparable}, G A, H B] struct{}
		type Faces [2]any
		type To[A any] struct{a *A}
		type Self interface{Self}
		func further[
			A any, B comparable, C Num, D int, E []int, F int | []int, G interface{int | []int; int | string}, H interface{int; string}, I interface{[]int; comparable},
			J interface{M()}, K interface{M(); Num}, L [2]any | struct{a error}, M ~[2]any, N interface{[2]any | int}, O Box[any], P error, Q error | int, R Faces | My,
			S List, T ~List | int, U C, V A, W Box[A], X Box[C], Y Self, Z interface{~[]int; ~string}, AA interface{Self; comparable}, BB interface{int | Faces}, CC interface{interface{comparable}},
			DD *[]int | int]() {}`)
	w.expectComparable(t, true, strings.Fields("B C D G H I K L M N O Q R U X Z CC DD Of__0 Of__2 Of__3 Of__5 Of__6 *A *E [1]B Box[B] Box[L] Box[Box[I]] To[A] To[E] Of[int,int,int,int,int,int,int,int]")...)
	w.expectComparable(t, true, "struct{a C}", "struct{a [2]B; b D}")
	w.expectComparable(t, false, "struct{a A}", "struct{a C; b [0]E}")
	w.expectComparable(t, false, strings.Fields("A E F J P S T V W Y AA Of__1 Of__4 Of__7 [0]A [1]E Box[A] Box[E] Box[F] []B [2]V")...)
}

// A type parameter is not comparable by a type of its set that holds it.
func TestComparableParametersThatAreHeld(t *testing.T) {
	w := declared(t, `
		type Box[A any] struct{a A}
		type To[A any] struct{a *A}
		type Of[A [2]A, B Box[B], C To[C] | int] struct{}
		func further[
			A [2]A, B struct{a B}, C [0]C | int, D Box[D], E int | Box[[3]Box[E]], F F, G struct{a H}, H struct{a G}, I ~[1]I,
			J *J | int, K To[K], L struct{a *L; b interface{M(L)}}, M interface{[2]M; comparable}, N struct{a [2]M; b J}, O [1]A | int, P interface{~[2]P | int; int}]() {}`)
	w.expectComparable(t, false, "A", "B", "C", "D", "E", "F", "G", "H", "I", "O", "Of__0", "Of__1", "[1]A", "Box[E]")
	w.expectComparable(t, true, "J", "K", "L", "M", "N", "P", "Of__2", "Box[M]", "*A", "To[B]")
}

// Types that hold themselves are met by a depth.
func TestComparableThatNeverEnds(t *testing.T) {
	w := declared(t, `
		type A struct{a A}
		type B [2]C
		type C struct{a int; b B}
		type Zero [0]Zero
		type Grows[P any] struct{a Grows[[]P]}
		type Swells[P any] struct{a Swells[Box[P]]; b Swells[[2]P]}
		type Swaps[P any, Q any] struct{a Swaps[Q, P]}
		type Box[P any] struct{a P}
		type ToRing struct{a Box[A]}
		type Fine struct{a *Fine; b interface{M(Fine)}; c *Grows[int]}
		type Nested Box[Box[Box[int]]]
		type Self interface{Self}
		func further[P A, Q Zero | int, R Box[Grows[int]], S Fine]() {}`)
	w.expectComparable(t, false, "A", "B", "C", "Zero", "Grows[int]", "Swells[int]", "Swaps[int,string]", "Swaps[int,int]", "ToRing", "Box[A]", "[0]A", "struct{a Zero}", "P", "Q", "R")
	w.expectComparable(t, true, "Fine", "Nested", "S", "*A", "Box[Box[Box[Box[*A]]]]", "Self", "[2]Self", "interface{Self}")
}

// structs declares structs of which each has as many fields of the next one.
func structs(count, fields int, last api.Type) []api.Decl {
	var all []api.Decl
	for i := range count {
		under := api.Type{Kind: api.KStruct}
		for k := range fields {
			under.Names, under.Emb, under.Args = append(under.Names, fmt.Sprintf("f%d", k)), append(under.Emb, false), append(under.Args, named(fmt.Sprintf("p.I%d", i+1)))
		}
		if i == count-1 {
			under = last
		}
		all = append(all, api.Decl{Name: fmt.Sprintf("p.I%d", i), Under: under})
	}
	return all
}

func TestComparableOfLongChains(t *testing.T) {
	for _, x := range []struct {
		length, fields int
		last           api.Type
		want           bool
	}{
		{20000, 1, integer, true}, {20000, 1, slice(integer), false}, {20000, 1, array(1, named("p.I0")), false}, {20000, 1, array(1, named("p.I19999")), false},
		{500, 3, integer, true}, {500, 3, slice(integer), false}, {500, 3, structOf(false, "a", named("p.I250")), false},
	} {
		e, ok := env.New(structs(x.length, x.fields, x.last), nil)
		if !ok {
			t.Fatal("P13.1")
		}
		for _, asked := range []api.Type{named("p.I0"), array(2, named("p.I1"))} {
			if typeset.Comparable(e, asked) != x.want || typeset.Satisfies(e, asked, asking) != x.want {
				t.Errorf("P14.2: Comparable of %d structs of %d fields is %v", x.length, x.fields, !x.want)
			}
		}
	}
}
