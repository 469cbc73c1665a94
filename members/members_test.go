package members_test

import (
	"fmt"
	"slices"
	"testing"

	"sterling/api"
	"sterling/env"
	"sterling/members"
	"sterling/types"
	"sterling/worlds"
)

// told tells what a Find tells.
func told(m *members.Members, name string) string {
	f, ok := m.Find(name)
	return fmt.Sprintf("%v %v %v%s %v", f.Method, f.Ptr, f.Path, types.Text(f.Type), ok)
}

// noFace tells no methods.
func noFace(*env.Env, api.Type) ([]string, []api.Type, bool) { return nil, nil, false }

// Members are told in one way, whatever is asked ahead of them.
func TestMembersInAnyOrder(t *testing.T) {
	w, ok := worlds.Read(`
		type A struct{x int; *B}
		func (a A) M() {}
		func (a *A) P() {}
		type B struct{y int; x bool; C; *D; _ int}
		type C struct{z int; twice int}
		func (c C) M() int {}
		func (c C) Far() {}
		type D struct{w int; twice int}`)
	if !ok {
		t.Fatal("P13.1")
	}
	names := []string{"x", "y", "z", "w", "M", "P", "B", "C", "D", "Far", "twice", "none", "_", ""}
	want := map[string]string{"x": "false false [0]int true", "y": "false false [1 0]int true", "z": "false false [1 2 0]int true", "w": "false false [1 3 0]int true", "M": "true false []func() true", "P": "true true []func() true",
		"B": "false false [1]*p.B true", "C": "false false [1 2]p.C true", "D": "false false [1 3]*p.D true", "Far": "true false [1 2]func() true"}
	for range names {
		names = append(names[1:], names[0])
		m := members.Of(w.Env, api.Type{Kind: api.KNamed, Name: "p.A"}, noFace)
		for _, name := range names {
			if want[name] == "" {
				want[name] = "false false [] false"
			}
			if got := told(m, name); got != want[name] {
				t.Errorf("P15.1: %s is %s, not %s", name, got, want[name])
			}
			_, isIn := m.Method(name)
			if isIn != (name == "M" || name == "Far") {
				t.Errorf("P15.2: %s is in the method set: %v", name, isIn)
			}
		}
		if got := m.Names(); !slices.Equal(got, []string{"B", "C", "D", "Far", "M", "P", "twice", "w", "x", "y", "z"}) {
			t.Errorf("P15.1: the names are %q", got)
		}
	}
}

// What is answered once is not kept.
func TestMembersInMemoryOfTheirOwn(t *testing.T) {
	w, ok := worlds.Read("type A struct{x []int; B}; type B struct{y [][]int}; func (b B) M(i []int) {}")
	if !ok {
		t.Fatal("P13.1")
	}
	m := members.Of(w.Env, api.Type{Kind: api.KNamed, Name: "p.A"}, noFace)
	for _, name := range []string{"x", "y", "M"} {
		before := told(m, name)
		f, _ := m.Find(name)
		f.Type.Args[0].Kind = 55
		for i := range f.Path {
			f.Path[i] = 55
		}
		if sig, isIn := m.Method(name); isIn {
			sig.Args[0].Kind = 55
		}
		m.Names()[0] = "changed"
		if got := told(m, name); got != before || m.Names()[0] != "B" {
			t.Errorf("P0.3: %s is %s, then %s", name, before, got)
		}
	}
}

// A face that is handed in tells the methods of interfaces and type parameters, and of these alone.
func TestMembersByFaces(t *testing.T) {
	w, ok := worlds.Read(`
		type Face interface{M()}
		type A struct{Face; x int}
		type At *Face
		func further[P Face]() {}`)
	if !ok {
		t.Fatal("P13.1")
	}
	var asked []string
	faces := func(e *env.Env, x api.Type) ([]string, []api.Type, bool) {
		asked = append(asked, types.Text(x))
		return []string{"A", "Z"}, []api.Type{types.Func(nil, types.Basic("int")), types.Func(nil, types.Basic("bool"))}, e == w.Env
	}
	for src, want := range map[string]string{"Face": "p.Face", "A": "p.Face", "*A": "p.Face", "P": "$1:P", "any": "interface{}", "*Face": "", "*P": "", "At": "", "int": "", "struct{Face}": "p.Face", "struct{*Face}": "", "None": ""} {
		x, _ := w.Type(src)
		asked = nil
		m := members.Of(w.Env, x, faces)
		z, hasZ := m.Method("Z")
		missing := m.Missing([]string{"A", "Z"}, []api.Type{types.Func(nil, types.Basic("int")), types.Func(nil, types.Basic("string"))})
		if got := fmt.Sprint(asked); got != "["+want+"]" || hasZ != (want != "") || hasZ && types.Text(z) != "func() bool" || missing != map[bool]string{false: "A", true: "Z"}[hasZ] {
			t.Errorf("P15.2: of %s the methods of %s are asked; Z is there: %v, missing is %s", src, got, hasZ, missing)
		}
	}
}
