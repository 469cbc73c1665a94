package worlds_test

import (
	"fmt"
	"testing"

	"sterling/api"
	"sterling/types"
	"sterling/worlds"
)

func TestRead(t *testing.T) {
	w, ok := worlds.Read(`
		type A struct{x int; y []string; B; *C; embed Box[int]; embedToo *Box2[A]}
		func (a A) M(i int, b bool) error {}
		func (a *A) N() {}
		type B map[string]func(A)
		type C [3]*B
		type Box[P any, Q interface{Z(); A(); ~[]P | string; error; B}] struct{a P; b Q}
		func (b *Box[X, _]) Get(x X) Box[X, X] {}
		type Box2[P comparable] []P
		func further[P any, Q Box2[P]]() {}`, api.Decl{Name: "q.A", Under: types.Basic("bool")})
	if ok || w.Env != nil {
		t.Error("a world with a wrong number of arguments is read")
	}
	w, ok = worlds.Read(`
		type A struct{x int; y []string; B; *C; embed Box[int, A]; embedToo *Box2[A]}
		func (a A) M(i int, b bool) error {}
		func (a *A) N() {}
		type B map[string]func(A)
		type C [3]*B
		type Box[P any, Q interface{Z(); A(); ~[]P | string; error; B}] struct{a P; b Q}
		func (b *Box[X, _]) Get(x X) Box[X, X] {}
		type Box2[P comparable] []P
		func further[P any, Q Box2[P]]() {}`, api.Decl{Name: "q.A", Under: types.Basic("bool")})
	if !ok {
		t.Fatal("a world can't be read")
	}
	for name, want := range map[string]string{
		"p.A": "struct{x int;y []string;!B p.B;!C *p.C;!Box p.Box[int,p.A];!Box2 *p.Box2[p.A]} [] M false func(int,bool) error N true func()", "p.B": "map[string]func(p.A) []", "p.C": "[3]*p.B []", "q.A": "bool []",
		"p.Box": "struct{a $7:p.Box#0;b $7:p.Box#1} [interface{} interface{A();Z();error;p.B;string|~[]$7:p.Box#0}] Get true func($7:p.Box#0) p.Box[$7:p.Box#0,$7:p.Box#0]", "p.Box2": "[]$8:p.Box2#0 [comparable]",
	} {
		d, _ := w.Env.Decl(name)
		var params []string
		for _, p := range d.Params {
			params = append(params, types.Text(p))
		}
		got := fmt.Sprint(types.Text(d.Under), " ", params)
		for _, m := range d.Methods {
			got += fmt.Sprint(" ", m.Name, " ", m.Ptr, " ", types.Text(m.Sig))
		}
		if got != want {
			t.Errorf("%s is %s, not %s", name, got, want)
		}
	}
	for src, want := range map[string]string{"P": "$1:P", "Box__1": "$7:p.Box#1", "[2]q.A": "[2]q.A", "(A)": "p.A", "func(a int, b P) A": "func(int,$1:P) p.A", "func()": "func()", "None": "p.None", "comparable": "comparable", "any": "interface{}", "P__0": "p.P__0"} {
		x, ok := w.Type(src)
		if got := types.Text(x); !ok || got != want {
			t.Errorf("%s is %s, not %s", src, got, want)
		}
	}
	if c, ok := w.Env.Constraint("Q"); !ok || types.Text(c) != "p.Box2[$1:P]" {
		t.Errorf("the constraint of Q is %s", types.Text(c))
	}
}

func TestReadWrong(t *testing.T) {
	for _, src := range []string{"type", "func (a A) M() {}", "type A int; func (b B) M() {}", "var x int", "const c = 1", "type A B", "type A int; type A int", "type A struct{x x}", "type A int; func (a A) M() {}; func (a A) M() {}", "type A[P any] B[P, P]; type B[P any] P", "import \"a\"\n"} {
		if w, ok := worlds.Read(src); ok || w.Env != nil {
			t.Errorf("this is read: %s", src)
		}
	}
	var none worlds.World
	for _, src := range []string{"", "1", "[", "func", "A B", "a + b", "struct{", "\x00"} {
		if x, ok := none.Type(src); ok || x.Kind != api.KNone {
			t.Errorf("this is a type: %s", src)
		}
	}
	// What is no type, though it may be read as one, may not be.
	for _, src := range []string{"[x]int", "[1 + 1]int"} {
		if x, ok := none.Type(src); ok && x.Len != 0 {
			t.Errorf("%s has the length %d", src, x.Len)
		}
	}
}
