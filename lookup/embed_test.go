package lookup_test

import (
	"fmt"
	"slices"
	"testing"

	"sterling/api"
	"sterling/lookup"
	"sterling/types"
)

func TestFindByEmbedding(t *testing.T) {
	w := declared(t, `
		type A struct{x int; y string; _ bool}
		func (a A) V() {}
		func (a *A) P(b A) A {}
		type List []int
		func (l *List) Add(i int) {}
		type Face interface{M() int}
		type ByValue struct{a int; A}
		type ByPointer struct{*A; b int}
		type Deep struct{a ByValue; b ByValue; c int; ByPointer; List}
		type Deeper struct{*Deep}
		type HasFace struct{b int; Face; error}
		type ToFace struct{*Face; a int}
		type At *A
		type HasAt struct{At; a int}
		type ToAt struct{*At; b int}
		type Same Deep
		type Box[P any] struct{a P; Face}
		func (b Box[P]) Get() P {}
		func (b *Box[P]) Put(p P) {}
		type Pair[P any, Q any] struct{b Q; embed *Box[[]P]; embedToo List}
		type Is[P any] interface{Has(p P) Box[P]}
		type HasIs[P any] struct{embed Is[*P]}
		type Num int`)
	ofA := "x: field [1 0] int; y: field [1 1] string; V: method [1] func(); P: *method [1] func(p.A) p.A; A: field [1] p.A"
	w.expectFind(t, map[string]string{
		"ByValue": ofA + "; a: field [0] int", "*ByValue": ofA, "struct{b int; A}": ofA, "*struct{b int; A}": ofA,
		"ByPointer":  "x: field [0 0] int; y: field [0 1] string; V: method [0] func(); P: *method [0] func(p.A) p.A; A: field [0] *p.A; b: field [1] int",
		"struct{*A}": "x: field [0 0] int; P: *method [0] func(p.A) p.A; A: field [0] *p.A", "struct{a int; b int; *ByValue}": "x: field [2 1 0] int; V: method [2 1] func(); P: *method [2 1] func(p.A) p.A; A: field [2 1] p.A; ByValue: field [2] *p.ByValue",
		"Deep":    "a: field [0] p.ByValue; c: field [2] int; x: field [3 0 0] int; y: field [3 0 1] string; V: method [3 0] func(); P: *method [3 0] func(p.A) p.A; A: field [3 0] *p.A; b: field [1] p.ByValue; Add: *method [4] func(int); List: field [4] p.List",
		"*Deeper": "c: field [0 2] int; x: field [0 3 0 0] int; V: method [0 3 0] func(); P: *method [0 3 0] func(p.A) p.A; Deep: field [0] *p.Deep; Add: *method [0 4] func(int)",
		"Same":    "x: field [3 0 0] int; V: method [3 0] func(); Add: *method [4] func(int); c: field [2] int",
		"HasFace": "M: method [1] func() int; Error: method [2] func() string; Face: field [1] p.Face; error: field [2] error; b: field [0] int", "struct{a int; b int; *HasFace}": "M: method [2 1] func() int; Error: method [2 2] func() string",
		"ToFace": "Face: field [0] *p.Face; a: field [1] int; M: nothing", "struct{*error}": "error: field [0] *error; Error: nothing", "struct{comparable}": "comparable: field [0] comparable; M: nothing",
		"HasAt": "At: field [0] p.At; a: field [1] int; x: nothing; V: nothing; P: nothing", "ToAt": "At: field [0] *p.At; b: field [1] int; x: nothing; V: nothing",
		"Box[int]":           "a: field [0] int; M: method [1] func() int; Face: field [1] p.Face",
		"Pair[string,error]": "a: field [1 0] []string; b: field [0] error; M: method [1 1] func() int; Get: method [1] func() []string; Put: *method [1] func([]string); Box: field [1] *p.Box[[]string]; Face: field [1 1] p.Face; Add: *method [2] func(int); List: field [2] p.List",
		"struct{embed Pair[Num,Box[int]]; embed Num}": "b: field [0 0] p.Box[int]; a: field [0 1 0] []p.Num; Get: method [0 1] func() []p.Num; Num: field [1] p.Num; M: method [0 1 1] func() int",
		"HasIs[string]":                     "Has: method [0] func(*string) p.Box[*string]; Is: field [0] p.Is[*string]; Get: nothing",
		"struct{embed *HasIs[Is[int]]}":     "Has: method [0 0] func(*p.Is[int]) p.Box[*p.Is[int]]",
		"struct{Num; *List; embed Is[int]}": "Num: field [0] p.Num; List: field [1] *p.List; Is: field [2] p.Is[int]; Add: *method [1] func(int); Has: method [2] func(int) p.Box[int]",
	})
	w.expectNothing(t, "ByValue ByPointer Deep *Deeper HasFace Pair[int,int] HasIs[int]", "_ z v p Q  [0]")
	w.expectNothing(t, "**ByValue []ByValue *HasAt *ToAt *ToFace struct{HasAt} struct{*ToFace}", "x V P M")
}

// At the least depth there is just one; what is deeper doesn't count.
func TestFindWhatHidesOthers(t *testing.T) {
	w := declared(t, `
		type A struct{x int; a A1}
		func (a A) M() {}
		type A1 int
		type B struct{x string; b int}
		func (b B) M() {}
		func (b *B) N() {}
		type C struct{c int}
		func (c *C) x() {}
		type InA struct{A}
		type InB struct{B; c bool}
		type InInA struct{InA}
		type Own struct{A; x bool}
		func (o *Own) M(i int) {}
		type OwnField struct{M int; A}
		type OwnMethod struct{*A; y int}
		func (o OwnMethod) x() {}
		type Two struct{A; B}
		type TwoBelow struct{Two; InInA}
		type TwoAndFar struct{A; B; InInA}
		type Near struct{Two; H}
		type H struct{x int8}
		func (h H) M() {}
		type Nearer struct{Near; x uint}
		type L struct{A}
		type R struct{*A}
		type Roads struct{L; R; d int}
		type RoadsAndOne struct{L; R; A}
		type RoadsAndFar struct{Roads; InInA}
		type DeepRoads struct{LL; RR}
		type LL struct{L}
		type RR struct{R; e int}
		type Face interface{M(); x()}
		type Mixed struct{A; Face}
		type Names struct{InA; B}
		type Box[P any] struct{x P}
		func (b Box[P]) M() P {}
		type BoxInt struct{embed Box[int]}
		type BoxText struct{embed Box[string]}
		type Boxes struct{BoxInt; BoxText}
		type Both struct{M int; a int; embed *Other}
		func (b Both) M() {}
		type Other struct{M bool; o int}
		type ToBoth struct{Both; s int}
		type Named struct{InB; Name}
		type Name struct{B int}`)
	w.expectFind(t, map[string]string{
		"Own":       "x: field [1] bool; a: field [0 1] p.A1; M: *method [] func(int)",
		"OwnField":  "M: field [0] int; x: field [1 0] int",
		"OwnMethod": "x: method [] func(); M: method [0] func(); a: field [0 1] p.A1",
		"Two":       "x: nothing; M: nothing; N: *method [1] func(); a: field [0 1] p.A1; b: field [1 1] int; A: field [0] p.A",
		// Deeper ones don't count where two meet.
		"TwoBelow": "x: nothing; M: nothing; A: field [0 0] p.A; N: *method [0 1] func(); b: field [0 1 1] int; a: field [0 0 1] p.A1; InA: field [1 0] p.InA", "TwoAndFar": "x: nothing; M: nothing; A: field [0] p.A; InA: field [2 0] p.InA; a: field [0 1] p.A1",
		// A nearer one hides two that meet.
		"Near": "x: field [1 0] int8; M: method [1] func(); b: field [0 1 1] int; N: *method [0 1] func()", "Nearer": "x: field [1] uint; M: method [0 1] func(); b: field [0 0 1 1] int",
		"struct{A; InB}": "x: field [0 0] int; M: method [0] func(); c: field [1 1] bool; b: field [1 0 1] int", "struct{InInA; InB}": "x: field [1 0 0] string; M: method [1 0] func(); a: field [0 0 0 1] p.A1",
		"struct{A; C}": "x: nothing; M: method [0] func(); c: field [1 0] int", "struct{C; x int; A}": "x: field [1] int; c: field [0 0] int", "struct{*C; InA}": "x: *method [0] func(); M: method [1 0] func()",
		// One type, by two roads at one depth, and by more.
		"Roads": "x: nothing; M: nothing; a: nothing; A: nothing; L: field [0] p.L; R: field [1] p.R; d: field [2] int", "RoadsAndOne": "x: field [2 0] int; M: method [2] func(); A: field [2] p.A; a: field [2 1] p.A1",
		"RoadsAndFar": "x: nothing; M: nothing; a: nothing; A: nothing; d: field [0 2] int; InA: field [1 0] p.InA", "DeepRoads": "x: nothing; a: nothing; A: nothing; L: field [0 0] p.L; R: field [1 0] p.R; e: field [1 1] int",
		"struct{L; R; InB}": "x: nothing; M: nothing; b: field [2 0 1] int; c: field [2 1] bool; A: nothing", "struct{Roads; B}": "x: field [1 0] string; M: method [1] func(); a: nothing; b: field [1 1] int",
		"struct{L; A}": "x: field [1 0] int; A: field [1] p.A; M: method [1] func()", "struct{A; L}": "x: field [0 0] int; A: field [0] p.A; a: field [0 1] p.A1",
		"Mixed": "x: nothing; M: nothing; a: field [0 1] p.A1; Face: field [1] p.Face", "struct{InA; Face}": "x: method [1] func(); M: method [1] func(); a: field [0 0 1] p.A1", "struct{Face; A; InB; x error}": "x: field [3] error; M: nothing; N: *method [2 0] func()",
		"Names": "x: field [1 0] string; M: method [1] func(); a: field [0 0 1] p.A1; A: field [0 0] p.A", "Boxes": "x: nothing; M: nothing; Box: nothing; BoxInt: field [0] p.BoxInt", "struct{BoxInt; embed *Box[error]}": "x: field [1 0] error; M: method [1] func() error; Box: field [1] *p.Box[error]",
		// A field and a method of one name at one depth.
		"Both": "M: nothing; a: field [1] int; o: field [2 1] int; Other: field [2] *p.Other", "*Both": "M: nothing", "ToBoth": "M: nothing; a: field [0 1] int; o: field [0 2 1] int", "struct{ToBoth; M func()}": "M: field [1] func(); s: field [0 1] int",
		// The name of an embedded field is a field's, too.
		"Named": "B: nothing; x: field [0 0 0] string", "struct{B; Name}": "B: field [0] p.B; x: field [0 0] string", "struct{InB; Name; B bool}": "B: field [2] bool; b: field [0 0 1] int",
	})
	e := made(t, slices.Concat(w.Decls, []api.Decl{
		{Name: "q.Name", Under: structOf(field("B", integer))}, {Name: "p.Meet", Under: structOf(embedded(named("p.Name")), embedded(named("p.InB")))},
		{Name: "q.A", Under: structOf(field("x", integer), field("q", integer))}, {Name: "p.Q", Under: structOf(embedded(named("q.A")))}, {Name: "p.Apart", Under: structOf(embedded(named("p.Q")), embedded(named("p.L")))},
	}))
	for name, want := range map[string]string{"B": "nothing", "b": "field [1 0 1] int", "x": "field [1 0 0] string"} {
		if got := tell(e, named("p.Meet"), name); got != want {
			t.Errorf("P15.1: Find(Meet, %s) is %s, not %s", name, got, want)
		}
	}
	// Types of one name in two packages are apart, and their names as fields are one.
	for name, want := range map[string]string{"A": "nothing", "x": "nothing", "q": "field [0 0 1] int", "a": "field [1 0 1] p.A1"} {
		if got := tell(e, named("p.Apart"), name); got != want {
			t.Errorf("P15.1: Find(Apart, %s) is %s, not %s", name, got, want)
		}
	}
}

func TestFindInRings(t *testing.T) {
	w := declared(t, `
		type A struct{x int}
		func (a *A) M() {}
		type Ring struct{*Ring; A; r int}
		type First struct{*Second; f int}
		type Second struct{*Third; s int; A}
		type Third struct{*First; *Second; t int}
		func (t Third) f() {}
		type Alone struct{*Alone}
		type Both struct{*Alone; *Ring; *Both}
		type Grows[P any] struct{embed *Grows[[]P]; a P; embedToo *Box[P]}
		type Box[P any] struct{b P; embed *Grows[Box[P]]}
		func (b Box[P]) Get() P {}
		type Swaps[P any, Q any] struct{embed *Swaps[Q, P]; p P; embedToo *Box[Q]}
		type Holds struct{Holds; h int; A}
		type Loop Loop
		type HasLoop struct{Loop; A}
		type Self interface{Self; S()}
		type HasSelf struct{Self; A}
		type GrowsToo[P any] struct{embed GrowsToo[[]P]; a P}`)
	w.expectFind(t, map[string]string{
		"Ring": "r: field [2] int; x: field [1 0] int; M: *method [1] func(); Ring: field [0] *p.Ring; q: nothing", "*Ring": "x: field [1 0] int", "struct{*Ring}": "r: field [0 2] int; x: field [0 1 0] int; M: *method [0 1] func()",
		"First":  "f: field [1] int; s: field [0 1] int; x: field [0 2 0] int; t: field [0 0 2] int; First: field [0 0 0] *p.First; Second: field [0] *p.Second; M: *method [0 2] func()",
		"Second": "f: method [0] func(); s: field [1] int; t: field [0 2] int; First: field [0 0] *p.First; Second: field [0 1] *p.Second; Third: field [0] *p.Third",
		"Third":  "f: method [] func(); s: field [1 1] int; x: field [1 2 0] int; First: field [0] *p.First; Third: field [1 0] *p.Third",
		"Alone":  "Alone: field [0] *p.Alone; x: nothing", "Both": "Alone: field [0] *p.Alone; Both: field [2] *p.Both; x: field [1 1 0] int",
		"Grows[int]": "a: field [1] int; b: field [2 0] int; Get: method [2] func() int; Grows: field [0] *p.Grows[[]int]; Box: field [2] *p.Box[int]; c: nothing", "Box[int]": "a: field [1 1] p.Box[int]; b: field [0] int; Get: method [] func() int; Grows: field [1] *p.Grows[p.Box[int]]",
		"Swaps[int,string]": "p: field [1] int; b: field [2 0] string; Get: method [2] func() string; a: field [2 1 1] p.Box[string]; q: nothing",
		"Holds":             "h: field [1] int; x: field [2 0] int; Holds: field [0] p.Holds; y: nothing", "HasLoop": "x: field [1 0] int; Loop: field [0] p.Loop", "HasSelf": "x: field [1 0] int; Self: field [0] p.Self; S: nothing",
		"GrowsToo[int]": "a: field [1] int; b: nothing; GrowsToo: field [0] p.GrowsToo[[]int]",
	})
	w.expectNothing(t, "Loop *Loop Self *Self", "x Loop Self S")
}

// chained declares that many structs, each of which embeds the next one, by pointers if that is asked for.
func chained(length int, byPointer bool, last api.Decl) []api.Decl {
	var all []api.Decl
	for i := range length {
		next := named(fmt.Sprintf("p.T%d", i+1))
		if byPointer {
			next = pointer(next)
		}
		all = append(all, api.Decl{Name: fmt.Sprintf("p.T%d", i), Under: structOf(field(fmt.Sprintf("f%d", i), integer), embedded(next))})
	}
	last.Name = fmt.Sprintf("p.T%d", length)
	return append(all, last)
}

func TestFindInLongChains(t *testing.T) {
	const length = 20000
	last := api.Decl{Under: structOf(field("x", text)), Methods: []api.Method{method("V", false, nullary), method("P", true, nullary)}}
	for _, byPointer := range []bool{false, true} {
		e := made(t, chained(length, byPointer, last))
		ways := slices.Repeat([]int{1}, length)
		for name, want := range map[string]api.Field{
			"x": {Path: append(slices.Clone(ways), 0), Type: text}, "V": {Method: true, Path: ways, Type: nullary}, "P": {Method: true, Ptr: true, Path: ways, Type: nullary},
			"f0": {Path: []int{0}, Type: integer}, "f777": {Path: append(ways[:777:777], 0), Type: integer}, "T1": {Path: []int{1}, Type: map[bool]api.Type{false: named("p.T1"), true: pointer(named("p.T1"))}[byPointer]}, "none": {},
		} {
			f, ok := lookup.Find(e, named("p.T0"), name)
			if ok != (name != "none") || f.Method != want.Method || f.Ptr != want.Ptr || !slices.Equal(f.Path, want.Path) || ok && !types.Eq(f.Type, want.Type) {
				t.Errorf("P15.1: Find(T0, %s), in a chain, is %.300v, %v", name, f, ok)
			}
		}
	}
}

// At each depth there are two declared types, each of which embeds both of the next depth: there are more roads than can be
// gone.
func TestFindByManyRoads(t *testing.T) {
	const depth = 60
	var decls []api.Decl
	for i := range depth {
		for _, side := range []string{"A", "B"} {
			under := structOf(field(fmt.Sprintf("%s%d", "f", i), integer), embedded(pointer(named(fmt.Sprintf("p.A%d", i+1)))), embedded(named(fmt.Sprintf("p.B%d", i+1))), field(fmt.Sprintf("own%s%d", side, i), text))
			if i == depth-1 {
				under = structOf(field("last", integer), field("last"+side, integer))
			}
			decls = append(decls, api.Decl{Name: fmt.Sprintf("p.%s%d", side, i), Under: under})
		}
	}
	w := world{}
	w.Env = made(t, decls)
	ways := func(count int) []int { return slices.Repeat([]int{2}, count) }
	for name, want := range map[string]string{
		"f0": "field [0] int", "f1": "nothing", "f2": "nothing", "ownA0": "field [3] string", "ownA1": "field [1 3] string", "ownB1": "field [2 3] string", "ownA2": "nothing", "A1": "field [1] *p.A1", "A2": "nothing",
		"last": "nothing", "lastA": "nothing", "none": "nothing",
	} {
		if got := tell(w.Env, named("p.A0"), name); got != want {
			t.Errorf("P15.1: Find(A0, %s), by many roads, is %s, not %s", name, got, want)
		}
	}
	// One who alone is embedded on each way is found.
	for i := range decls {
		if decls[i].Name[2] == 'A' && i < len(decls)-2 {
			decls[i].Under.Emb[1] = false
			decls[i].Under.Names[1] = "no"
			decls[i+1].Under.Emb[1], decls[i+1].Under.Names[1] = false, "no"
		}
	}
	w.Env = made(t, decls)
	want := fmt.Sprint("field ", append(ways(depth-1), 1), " int")
	if got := tell(w.Env, named("p.A0"), "lastB"); got != want {
		t.Errorf("P15.1: Find(A0, lastB), by one road, is %s, not %s", got, want)
	}
}

func TestFindInWideStructs(t *testing.T) {
	const width = 2000
	var decls []api.Decl
	wide := api.Type{Kind: api.KStruct}
	var methods []api.Method
	for i := range width {
		name := fmt.Sprintf("p.T%d", i)
		decls = append(decls, api.Decl{Name: name, Under: structOf(field(fmt.Sprintf("f%d", i), array(i, integer)), field("all", integer)), Methods: []api.Method{method(fmt.Sprintf("M%d", i), i%2 == 0, nullary)}})
		add := structOf(embedded(named(name)))
		wide.Names, wide.Emb, wide.Args = append(wide.Names, add.Names...), append(wide.Emb, true), append(wide.Args, add.Args...)
		methods = append(methods, method(fmt.Sprintf("O%d", i), i%3 == 0, function(array(i, text))))
	}
	e := made(t, append(decls, api.Decl{Name: "p.Wide", Under: wide, Methods: methods}))
	for i := 0; i < width; i += 199 {
		for name, want := range map[string]string{
			fmt.Sprintf("f%d", i): fmt.Sprintf("field [%d 0] [%d]int", i, i), fmt.Sprintf("T%d", i): fmt.Sprintf("field [%d] p.T%d", i, i),
			fmt.Sprintf("M%d", i): map[bool]string{false: "", true: "*"}[i%2 == 0] + fmt.Sprintf("method [%d] func()", i),
			fmt.Sprintf("O%d", i): map[bool]string{false: "", true: "*"}[i%3 == 0] + fmt.Sprintf("method [] func() [%d]string", i),
		} {
			if got := tell(e, named("p.Wide"), name); got != want {
				t.Errorf("P15.1: Find(Wide, %s) is %s, not %s", name, got, want)
			}
		}
	}
	if got := tell(e, named("p.Wide"), "all"); got != "nothing" {
		t.Errorf("P15.1: Find(Wide, all) is %s", got)
	}
	if got := len(lookup.Set(e, pointer(named("p.Wide")))); got != 2*width {
		t.Errorf("P15.2: Set(*Wide) has %d names", got)
	}
	if got := len(lookup.Set(e, named("p.Wide"))); got != 1000+1333 {
		t.Errorf("P15.2: Set(Wide) has %d names", got)
	}
}
