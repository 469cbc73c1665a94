package assign_test

import (
	"fmt"
	"math/rand"
	"slices"
	"strings"
	"testing"

	"sterling/api"
	"sterling/assign"
	"sterling/constant"
	"sterling/env"
	"sterling/lookup"
	"sterling/types"
	"sterling/typeset"
	"sterling/worlds"
)

// The model takes the words one by one, and holds types against one another by themselves.
type model struct{ *env.Env }

func (m model) under(t api.Type) api.Type {
	under, _ := m.Under(t)
	return under
}

func isOneOf(kind int, kinds ...int) bool { return slices.Contains(kinds, kind) }

func (m model) isVariable(t api.Type) bool {
	return !isOneOf(t.Kind, api.KNil, api.KUntyped, api.KVoid) && !typeset.Constraint(m.Env, t)
}

// set are the types of a type parameter's set; false if there are none of them, or all.
func (m model) set(t api.Type) ([]api.Type, bool) {
	terms, isAll, _ := typeset.Terms(m.Env, t)
	var all []api.Type
	for _, term := range terms {
		all = append(all, term.Type)
	}
	return all, !isAll && len(all) > 0
}

func (m model) ofEach(t api.Type, is func(api.Type) bool) bool {
	all, has := m.set(t)
	return has && !slices.ContainsFunc(all, func(x api.Type) bool { return !is(x) })
}

func goesWith(c api.Const, name string) bool {
	return name == map[int]string{api.CBool: "bool", api.CString: "string", api.CInt: "int", api.CFloat: "float"}[c.Kind]
}

func (m model) fits(c api.Const, t api.Type) bool {
	if t.Kind == api.KParam {
		return m.ofEach(t, func(x api.Type) bool { return m.fits(c, x) })
	}
	_, fits := constant.Fits(c, m.under(t).Name)
	return fits && m.under(t).Kind == api.KBasic
}

func (m model) mayConstant(c api.Const, from, to api.Type) bool {
	if !goesWith(c, from.Name) {
		return false
	}
	if m.under(to).Kind == api.KInterface {
		byDefault := basic(strings.Replace(from.Name, "float", "float64", 1))
		return m.fits(c, byDefault) && lookup.Implements(m.Env, byDefault, to)
	}
	return m.fits(c, to)
}

func (m model) may(c api.Const, from, to api.Type) bool {
	switch {
	case !m.isVariable(to) || from.Kind == api.KVoid:
		return false
	case from.Kind == api.KNil:
		return isOneOf(m.under(to).Kind, api.KPointer, api.KFunc, api.KSlice, api.KMap, api.KInterface)
	case from.Kind == api.KUntyped:
		return m.mayConstant(c, from, to)
	case types.Eq(from, to) || lookup.Implements(m.Env, from, to):
		return true
	case types.Eq(m.under(from), m.under(to)) && !(isOneOf(from.Kind, api.KNamed, api.KBasic) && isOneOf(to.Kind, api.KNamed, api.KBasic)):
		return from.Kind != api.KParam && to.Kind != api.KParam
	case from.Kind == api.KParam && !isOneOf(to.Kind, api.KNamed, api.KBasic, api.KParam):
		return m.ofEach(from, func(x api.Type) bool { return m.may(c, x, to) })
	case to.Kind == api.KParam && !isOneOf(from.Kind, api.KNamed, api.KBasic, api.KParam):
		return m.ofEach(to, func(x api.Type) bool { return m.may(c, from, x) })
	}
	return false
}

func (m model) isBytes(t api.Type) bool {
	under := m.under(t)
	return under.Kind == api.KSlice && types.Eq(m.under(under.Args[0]), basic("uint8"))
}

func (m model) converts(c api.Const, from, to api.Type) bool {
	fromUnder, toUnder := m.under(from), m.under(to)
	isString := func(t api.Type) bool { return types.Eq(t, text) || types.Eq(t, untyped("string")) }
	switch {
	case m.may(c, from, to):
		return true
	case !m.isVariable(to) || isOneOf(from.Kind, api.KVoid, api.KNil):
		return false
	case from.Kind == api.KUntyped && !goesWith(c, from.Name):
		return false
	case from.Kind == api.KParam:
		return m.ofEach(from, func(x api.Type) bool { return m.converts(c, x, to) })
	case to.Kind == api.KParam:
		return m.ofEach(to, func(x api.Type) bool { return m.converts(c, from, x) })
	case c.Kind != api.CNone && toUnder.Kind == api.KBasic:
		return m.fits(c, to) && (from.Kind == api.KUntyped || m.fits(c, from))
	case types.Eq(fromUnder, toUnder):
		return true
	case from.Kind == api.KPointer && to.Kind == api.KPointer:
		return types.Eq(m.under(from.Args[0]), m.under(to.Args[0]))
	case types.Numeric(fromUnder) && types.Numeric(toUnder):
		return true
	}
	return isString(fromUnder) && m.isBytes(to) || m.isBytes(from) && isString(toUnder)
}

func (m model) isOrdered(t api.Type) bool {
	if t.Kind == api.KParam {
		return m.ofEach(t, m.isOrdered)
	}
	return types.Numeric(m.under(t)) || types.Eq(m.under(t), text)
}

func (m model) compares(a, b api.Type, order bool) bool {
	if !m.may(none, a, b) && !m.may(none, b, a) {
		return false
	}
	if order {
		return m.isOrdered(a) && m.isOrdered(b)
	}
	if a.Kind == api.KNil || b.Kind == api.KNil {
		return true
	}
	return typeset.Comparable(m.Env, a) && typeset.Comparable(m.Env, b)
}

// maker makes texts at random.
type maker struct{ *rand.Rand }

func pick[T any](r maker, list ...T) T { return list[r.Intn(len(list))] }

const (
	typeCount  = 8
	paramCount = 5
)

// aType is the text of a type of at most that depth, with type parameters or without.
func (r maker) aType(depth int, withParams bool) string {
	if depth == 0 || r.Intn(3) == 0 {
		name := pick(r, "int", "int", "string", "uint8", "float64", "bool", "any", "error", fmt.Sprint("T", r.Intn(typeCount)), fmt.Sprint("T", r.Intn(typeCount)))
		if withParams && r.Intn(4) == 0 {
			return fmt.Sprint("P", r.Intn(paramCount))
		}
		return name
	}
	x := r.aType(depth-1, withParams)
	form := pick(r, "*%", "*%", "[]%", "[]%", "[2]%", "map[string]%", "func(%)", "struct{a %}", "G[%]", "interface{M()}", "interface{M(%)}")
	return strings.ReplaceAll(form, "%", x)
}

// aConstraint is the text of an interface, perhaps with unions.
func (r maker) aConstraint() string {
	var parts []string
	for range pick(r, 0, 1, 1, 1, 2) {
		var terms []string
		for range 1 + r.Intn(3) {
			terms = append(terms, pick(r, "int", "string", "~int", "~string", "[]int", "~[]int", "float64", "uint8", "[]uint8", "*int", r.aType(2, false), fmt.Sprint("T", r.Intn(typeCount)), fmt.Sprint("T", r.Intn(typeCount))))
		}
		parts = append(parts, strings.Join(terms, " | "))
	}
	switch r.Intn(8) {
	case 0:
		parts = append(parts, "comparable")
	case 1:
		parts = append(parts, "M()")
	}
	return "interface{" + strings.Join(parts, "; ") + "}"
}

func (r maker) aWorld() string {
	var b strings.Builder
	for i := range typeCount {
		x := r.aType(2, false)
		if r.Intn(3) == 0 {
			x = pick(r, "int", "[]int", "string", "[]uint8", "*int", "struct{a int}", "interface{M()}", r.aConstraint())
		}
		fmt.Fprintf(&b, "type T%d %s\n", i, x)
		if r.Intn(3) == 0 {
			fmt.Fprintf(&b, "func (t %sT%d) M() {}\n", pick(r, "", "*"), i)
		}
	}
	fmt.Fprintf(&b, "type G[A any] %s\nfunc (g G[A]) M(a A) {}\n", pick(r, "[]A", "struct{a A}", "*A", "[]int", "map[string]A"))
	var params []string
	for i := range paramCount {
		params = append(params, fmt.Sprint("P", i, " ", r.aConstraint()))
	}
	return b.String() + "func further[" + strings.Join(params, ", ") + "]() {}"
}

func (r maker) asked(t *testing.T, w world) []api.Type {
	all := []api.Type{of(api.KNil), of(api.KVoid), untyped("int"), untyped("float"), untyped("bool"), untyped("string"), integer, text, basic("uint8"), basic("float32"), anything, named("error"), named("comparable"), slice(integer), slice(basic("uint8"))}
	for i := range typeCount {
		x := named(fmt.Sprint("p.T", i))
		all = append(all, x, pointer(x))
		if under, ok := w.Env.Under(x); ok {
			all = append(all, under)
		}
	}
	for i := range paramCount {
		all = append(all, param(fmt.Sprint("P", i)))
	}
	for range 10 {
		src := r.aType(3, true)
		all = append(all, w.says(t, src))
	}
	return all
}

func (m model) hold(t *testing.T, src string, c api.Const, x, y api.Type) {
	_, isKnown := m.Under(x)
	_, isOtherKnown := m.Under(y)
	isKnown = isKnown && isOtherKnown
	if got, want := assign.May(m.Env, c, x, y), isKnown && m.may(c, x, y); got != want {
		t.Errorf("P16.1: May(%s, %s) is %v with %v\n%s", types.Text(x), types.Text(y), got, c, src)
	}
	if got, want := assign.Converts(m.Env, c, x, y), isKnown && m.converts(c, x, y); got != want {
		t.Errorf("P16.2: Converts(%s, %s) is %v with %v\n%s", types.Text(x), types.Text(y), got, c, src)
	}
	if c.Kind != api.CNone {
		return
	}
	for _, order := range []bool{false, true} {
		if got, want := assign.Compares(m.Env, x, y, order), isKnown && m.compares(x, y, order); got != want {
			t.Errorf("P16.2: Compares(%s, %s, %v) is %v\n%s", types.Text(x), types.Text(y), order, got, src)
		}
	}
}

func TestModel(t *testing.T) {
	r := maker{rand.New(rand.NewSource(16))}
	var consts []api.Const
	for _, src := range []string{"5", "300", "-1", "18446744073709551616", "2.0", "0.5", "1e39", "1e400", "true", `"a"`} {
		consts = append(consts, literal(t, src))
	}
	for count := 0; count < 16 && !t.Failed(); {
		src := r.aWorld()
		read, ok := worlds.Read(src)
		if !ok {
			continue
		}
		count++
		all := r.asked(t, world{read})
		for _, x := range all {
			for _, y := range all {
				for _, c := range []api.Const{none, pick(r, consts...), pick(r, consts...)} {
					model{read.Env}.hold(t, src, c, x, y)
				}
			}
		}
	}
}
