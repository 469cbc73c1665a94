package typeset_test

import (
	"fmt"
	"slices"
	"testing"

	"sterling/api"
	"sterling/env"
	"sterling/types"
	"sterling/typeset"
)

// The model asks of each type of a universe whether it is in a set, going over all that is embedded each time. For each
// underlying type there is a declared one in the universe that no term mentions: so a term with Tilde is told from one
// without.
type model struct {
	*env.Env
	universe []api.Type
	unders   map[string]*api.Type
}

// Under keeps what it is told.
func (m model) Under(t api.Type) (api.Type, bool) {
	text := types.Text(t)
	if _, isThere := m.unders[text]; !isThere {
		m.unders[text] = nil
		if under, ok := m.Env.Under(t); ok {
			m.unders[text] = &under
		}
	}
	if m.unders[text] == nil {
		return api.Type{}, false
	}
	return *m.unders[text], true
}

const modelDepth = 40

// attempt is what ask answers; false if it panics, as it does where it comes too deep.
func attempt(ask func() bool) (answer, ends bool) {
	defer func() {
		if caught := recover(); caught != nil {
			if caught != "too deep" {
				panic(caught)
			}
			answer, ends = false, false
		}
	}()
	return ask(), true
}

func deeper(depth int) int {
	if depth > modelDepth {
		panic("too deep")
	}
	return depth + 1
}

func (m model) isFace(t api.Type) bool {
	under, ok := m.Under(t)
	return ok && under.Kind == api.KInterface
}

// asInterface is t, or the interface that it is in as a constraint.
func (m model) asInterface(t api.Type) api.Type {
	if !m.isFace(t) {
		return sets(terms(only(t)))
	}
	return t
}

// parts are the interfaces that t embeds, and its other unions.
func (m model) parts(t api.Type) (embedded []api.Type, unions [][]api.Term) {
	under, _ := m.Under(t)
	for _, union := range under.Sets {
		if len(union) == 1 && !union[0].Tilde && m.isFace(union[0].Type) {
			embedded = append(embedded, union[0].Type)
		} else {
			unions = append(unions, union)
		}
	}
	return embedded, unions
}

func (m model) isIn(x, face api.Type, depth int) bool {
	depth = deeper(depth)
	embedded, unions := m.parts(face)
	for _, inner := range embedded {
		if !m.isIn(x, inner, depth) {
			return false
		}
	}
	for _, union := range unions {
		if !slices.ContainsFunc(union, func(term api.Term) bool { return m.isInTerm(x, term) }) {
			return false
		}
	}
	return true
}

func (m model) isInTerm(x api.Type, term api.Term) bool {
	if !term.Tilde {
		return types.Eq(x, term.Type)
	}
	a, isA := m.Under(x)
	b, isB := m.Under(term.Type)
	return isA && isB && types.Eq(a, b)
}

// any tells whether an interface, or one in it, is so.
func (m model) any(face api.Type, depth int, is func(t api.Type, unions [][]api.Term) bool) bool {
	depth = deeper(depth)
	embedded, unions := m.parts(face)
	found := is(face, unions)
	for _, inner := range embedded {
		found = m.any(inner, depth, is) || found
	}
	return found
}

func (m model) hasUnions(face api.Type) bool {
	return m.any(face, 0, func(_ api.Type, unions [][]api.Term) bool { return len(unions) > 0 })
}

func (m model) asks(face api.Type) bool {
	return m.any(face, 0, func(t api.Type, _ [][]api.Term) bool { return t.Kind == api.KNamed && t.Name == "comparable" })
}

// methods are by name; false if two of one name are not Eq.
func (m model) methods(face api.Type) (map[string]api.Type, bool) {
	all, agree := map[string]api.Type{}, true
	m.any(face, 0, func(t api.Type, _ [][]api.Term) bool {
		under, _ := m.Under(t)
		for i, name := range under.Names {
			if before, isThere := all[name]; isThere && !types.Eq(before, under.Args[i]) {
				agree = false
			}
			all[name] = under.Args[i]
		}
		return false
	})
	return all, agree
}

// standsOnlyAsConstraint goes no further where it comes back, or too deep.
func (m model) standsOnlyAsConstraint(face api.Type, met map[string]bool, depth int) bool {
	text := types.Text(face)
	if met[text] || depth > modelDepth {
		return false
	}
	met[text] = true
	embedded, unions := m.parts(face)
	return len(unions) > 0 || text == "comparable" || slices.ContainsFunc(embedded, func(inner api.Type) bool {
		return m.standsOnlyAsConstraint(inner, met, depth+1)
	})
}

func (m model) comparable(t api.Type, strictly bool, depth int) bool {
	depth = deeper(depth)
	if t.Kind == api.KParam {
		c, _ := m.Constraint(t.Name)
		face := m.asInterface(c)
		if m.asks(face) {
			return true
		}
		return m.hasUnions(face) && !slices.ContainsFunc(m.universe, func(x api.Type) bool { return m.isIn(x, face, 0) && !m.comparable(x, strictly, depth) })
	}
	under, ok := m.Under(t)
	if !ok || t.Name == "comparable" {
		return false
	}
	switch under.Kind {
	case api.KBasic, api.KPointer:
		return true
	case api.KInterface:
		return !strictly && !m.standsOnlyAsConstraint(t, map[string]bool{}, 0)
	case api.KArray, api.KStruct:
		return !slices.ContainsFunc(under.Args, func(x api.Type) bool { return !m.comparable(x, strictly, depth) })
	case api.KParam:
		return m.comparable(under, strictly, depth)
	}
	return false
}

// found is a member by its depth.
type found struct {
	depth int
	sig   api.Type
}

// members goes each way through embedded fields.
func (m model) members(t api.Type, isPointedAt bool, depth int, all map[string][]found) {
	if t.Kind == api.KPointer {
		t, isPointedAt = t.Args[0], true
		if under, _ := m.Under(t); under.Kind == api.KInterface {
			return
		}
	}
	under, _ := m.Under(t)
	if under.Kind == api.KPointer || depth > 6 {
		return
	}
	if under.Kind == api.KInterface {
		var list map[string]api.Type
		if agree, _ := attempt(func() (agree bool) {
			list, agree = m.methods(t)
			return agree
		}); agree {
			for name, sig := range list {
				all[name] = append(all[name], found{depth, sig})
			}
		}
		return
	}
	if d, ok := m.Decl(t.Name); ok && t.Kind == api.KNamed {
		for _, method := range d.Methods {
			sig := method.Sig
			if method.Ptr && !isPointedAt {
				sig = api.Type{}
			}
			all[method.Name] = append(all[method.Name], found{depth, sig})
		}
	}
	if under.Kind != api.KStruct {
		return
	}
	for i, name := range under.Names {
		all[name] = append(all[name], found{depth: depth})
		if under.Emb[i] {
			m.members(under.Args[i], isPointedAt, depth+1, all)
		}
	}
}

func (m model) methodSet(t api.Type) map[string]api.Type {
	all := map[string][]found{}
	m.members(t, false, 0, all)
	one := map[string]api.Type{}
	for name, list := range all {
		least := slices.MinFunc(list, func(a, b found) int { return a.depth - b.depth }).depth
		list = slices.DeleteFunc(list, func(f found) bool { return f.depth > least })
		if len(list) == 1 {
			one[name] = list[0].sig
		}
	}
	return one
}

func (m model) satisfies(t, c api.Type) bool {
	face := m.asInterface(c)
	asked, agree := m.methods(face)
	has := map[string]api.Type{}
	isParam, isFace := t.Kind == api.KParam, m.isFace(t)
	own := t
	if isParam {
		constraint, _ := m.Constraint(t.Name)
		own = m.asInterface(constraint)
	}
	if isParam || isFace {
		list, ownAgree := m.methods(own)
		if ownAgree {
			has = list
		}
	} else {
		has = m.methodSet(t)
	}
	for name, sig := range asked {
		if !agree || !types.Eq(has[name], sig) {
			return false
		}
	}
	switch {
	case isFace:
		return !m.hasUnions(own) && !m.asks(own) && !m.hasUnions(face)
	case isParam:
		isOutside := func(x api.Type) bool { return m.isIn(x, own, 0) && !m.isIn(x, face, 0) }
		if m.hasUnions(face) && (!m.hasUnions(own) || slices.ContainsFunc(m.universe, isOutside)) {
			return false
		}
	default:
		if !m.isIn(t, face, 0) {
			return false
		}
	}
	return !m.asks(face) || m.comparable(t, isParam, 0)
}

func (m model) core(param api.Type) (api.Type, bool) {
	c, _ := m.Constraint(param.Name)
	face := m.asInterface(c)
	if !m.hasUnions(face) {
		return api.Type{}, false
	}
	var core api.Type
	for _, x := range m.universe {
		if !m.isIn(x, face, 0) {
			continue
		}
		under, ok := m.Under(x)
		if !ok || core.Kind != api.KNone && !types.Eq(core, under) {
			return api.Type{}, false
		}
		core = under
	}
	return core, core.Kind != api.KNone
}

// expectTermsOf holds Terms against the model.
func (m model) expectTermsOf(t *testing.T, x, face api.Type) {
	list, isAll, isSet := typeset.Terms(m.Env, x)
	hasUnions, ends := attempt(func() bool { return m.hasUnions(face) })
	if isSet != ends || isAll != (ends && !hasUnions) || (isAll || !isSet) && len(list) > 0 {
		t.Errorf("P14.1: Terms(%s) are %v, %v, %v", types.Text(x), list, isAll, isSet)
		return
	}
	for _, u := range m.universe {
		inModel, _ := attempt(func() bool { return hasUnions && m.isIn(u, face, 0) })
		if slices.ContainsFunc(list, func(term api.Term) bool { return m.isInTerm(u, term) }) != inModel {
			t.Errorf("P14.1: Terms(%s) are %s: %s is in it: %v", types.Text(x), tellTerms(m.Env, x), types.Text(u), inModel)
		}
	}
	for i, a := range list {
		if under, ok := m.Under(a.Type); a.Tilde && (!ok || !types.Eq(under, a.Type)) {
			t.Errorf("P14.1: Terms(%s) are %s, with a Tilde ahead of what is declared", types.Text(x), tellTerms(m.Env, x))
		}
		for k, b := range list {
			if i != k && m.isInTerm(a.Type, b) && (b.Tilde || !a.Tilde) {
				t.Errorf("P14.1: Terms(%s) are %s, one in another one", types.Text(x), tellTerms(m.Env, x))
			}
			if i < k && (a.Tilde && !b.Tilde || a.Tilde == b.Tilde && types.Text(a.Type) >= types.Text(b.Type)) {
				t.Errorf("P14.1: Terms(%s) are %s, in another order", types.Text(x), tellTerms(m.Env, x))
			}
		}
	}
}

func (m model) expectMethodsOf(t *testing.T, x, face api.Type) {
	var want map[string]api.Type
	agree, _ := attempt(func() (agree bool) {
		want, agree = m.methods(face)
		return agree
	})
	names, sigs, isSet := typeset.Methods(m.Env, x)
	if isSet != agree || agree && (len(names) != len(want) || len(sigs) != len(want)) || !slices.IsSorted(names) {
		t.Errorf("P14.1: Methods(%s) are %s", types.Text(x), tellMethods(m.Env, x))
		return
	}
	for i, name := range names {
		if !types.Eq(want[name], sigs[i]) {
			t.Errorf("P14.1: Methods(%s) are %s", types.Text(x), tellMethods(m.Env, x))
		}
	}
}

func TestLikeModel(t *testing.T) {
	random := newMaker(1400)
	seen := map[string]int{}
	for range 60 {
		w := random.aWorld(t)
		m := model{w.Env, random.universe(), map[string]*api.Type{}}
		asked := random.allAsked(w)
		for _, x := range asked {
			m.expectLikeModel(t, x, seen)
		}
		for range 150 {
			x, c := pick(random, asked...), pick(random, asked...)
			want, _ := attempt(func() bool { return m.satisfies(x, c) })
			// What never ends is false, also where that is not asked for.
			want = want && m.ends(x) && m.ends(c)
			if typeset.Satisfies(m.Env, x, c) != want {
				t.Errorf("P14.2: Satisfies(%s, %s) is %v", types.Text(x), types.Text(c), !want)
			}
			seen[fmt.Sprint("satisfies ", want)]++
		}
		if t.Failed() {
			t.Fatalf("of %s", w.tell())
		}
	}
	for _, what := range []string{"set", "no set", "empty set", "clash", "constraint", "comparable", "core", "satisfies true", "satisfies false"} {
		if seen[what] < 20 {
			t.Errorf("%s: only %d", what, seen[what])
		}
	}
}

// ends tells whether what is asked of a set of x comes to an end.
func (m model) ends(x api.Type) bool {
	if x.Kind == api.KParam {
		x, _ = m.Constraint(x.Name)
	}
	if !m.isFace(x) {
		return true
	}
	_, ends := attempt(func() bool { return m.hasUnions(x) })
	return ends
}

func (m model) expectLikeModel(t *testing.T, x api.Type, seen map[string]int) {
	face := x
	isSet := m.isFace(x)
	if x.Kind == api.KParam {
		c, _ := m.Constraint(x.Name)
		face, isSet = m.asInterface(c), true
	}
	if isSet {
		m.expectTermsOf(t, x, face)
		m.expectMethodsOf(t, x, face)
	} else if tellTerms(m.Env, x) != "no set" || tellMethods(m.Env, x) != "no set" {
		t.Errorf("P14.1: %s has a set", types.Text(x))
	}
	isConstraint, _ := attempt(func() bool {
		return m.isFace(x) && (m.hasUnions(face) || m.asks(face))
	})
	if typeset.Constraint(m.Env, x) != isConstraint {
		t.Errorf("P14.1: Constraint(%s) is %v", types.Text(x), !isConstraint)
	}
	isComparable, _ := attempt(func() bool { return m.comparable(x, false, 0) })
	if typeset.Comparable(m.Env, x) != isComparable {
		t.Errorf("P14.2: Comparable(%s) is %v", types.Text(x), !isComparable)
	}
	want, hasCore := m.Under(x)
	if x.Kind == api.KParam {
		hasCore, _ = attempt(func() (has bool) {
			want, has = m.core(x)
			return has
		})
	}
	core, has := typeset.Core(m.Env, x)
	if has != hasCore || has && !types.Eq(core, want) {
		t.Errorf("P14.2: Core(%s) is %s, %v", types.Text(x), types.Text(core), has)
	}
	count(seen, m.Env, x, isConstraint, isComparable, has)
}

func count(seen map[string]int, e *env.Env, x api.Type, isConstraint, isComparable, isCore bool) {
	told := tellTerms(e, x)
	for what, is := range map[string]bool{
		"set": told != "no set", "no set": told == "no set", "empty set": told == "", "clash": told != "no set" && tellMethods(e, x) == "no set",
		"constraint": isConstraint, "comparable": isComparable, "core": isCore && x.Kind == api.KParam,
	} {
		if is {
			seen[what]++
		}
	}
}
