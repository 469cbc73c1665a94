package members

import (
	"slices"
	"strconv"

	"sterling/api"
	"sterling/subst"
	"sterling/types"
)

// none is the number of what there isn't.
const none = -1

// holder is what has methods and fields: a declared type, a struct, or (not embedded) another interface or a type parameter.
type holder struct {
	t, under api.Type
	// Is there a pointer on the way to it? Then its methods with pointer receivers are in the method set.
	isPointedAt bool
	// Is it embedded more than once at that depth? Then it has nothing that is one alone.
	isTwice bool
	// by is the holder that embeds it, as its field of that number.
	by, number int
}

// mention is a member that is found, and how many there are of its name at that depth.
type mention struct {
	count  int
	holder int
	// number is that of a field; of a method there is none.
	number int
	isPtr  bool
	// t is its type; that of a declared type's method without arguments put for parameters.
	t       api.Type
	isToPut bool
}

func (x mention) isMethod() bool { return x.number == none }

// holdersOf are where the members of t are: none or one. From with comes how t is reached.
func (m *Members) holdersOf(t api.Type, with holder) []holder {
	isPointer := t.Kind == api.KPointer
	if isPointer {
		t, with.isPointedAt = t.Args[0], true
	}
	// What is too great to have an underlying type has its methods all the same.
	under, _ := m.e.Under(t)
	switch under.Kind {
	case api.KPointer:
		return nil
	case api.KInterface, api.KParam:
		if isPointer {
			return nil
		}
	}
	with.t, with.under = t, under
	return []holder{with}
}

// goDeeper looks into the holders at the next depth, and adds those that they embed.
func (m *Members) goDeeper() {
	here := make(map[string]mention)
	var embedded []holder
	end := len(m.holders)
	for ; m.open < end; m.open++ {
		embedded = append(embedded, m.lookInto(m.open, here)...)
	}
	for name, x := range here {
		if _, isFound := m.found[name]; !isFound {
			m.found[name] = x
		}
	}
	m.addUnmet(embedded)
}

func (m *Members) lookInto(number int, here map[string]mention) []holder {
	h := m.holders[number]
	switch h.under.Kind {
	case api.KInterface, api.KParam:
		m.addFace(number, here)
		return nil
	}
	if h.t.Kind == api.KNamed {
		m.addMethods(number, here)
	}
	if h.under.Kind != api.KStruct {
		return nil
	}
	m.addFields(number, here)
	return m.embeddedIn(number)
}

func (m *Members) addFace(number int, here map[string]mention) {
	names, sigs, _ := m.faces(m.e, m.holders[number].t)
	for i, name := range names {
		m.add(here, name, mention{holder: number, number: none, t: sigs[i]})
	}
}

func (m *Members) addMethods(number int, here map[string]mention) {
	d, _ := m.e.Decl(m.holders[number].t.Name)
	for _, method := range d.Methods {
		m.add(here, method.Name, mention{holder: number, number: none, isPtr: method.Ptr, t: method.Sig, isToPut: true})
	}
}

func (m *Members) addFields(number int, here map[string]mention) {
	under := m.holders[number].under
	for i, name := range under.Names {
		m.add(here, name, mention{holder: number, number: i, t: under.Args[i]})
	}
}

// add counts x among those of that name at this depth. `_` is no name.
func (m *Members) add(here map[string]mention, name string, x mention) {
	if name == "_" {
		return
	}
	x.count = here[name].count + 1
	if m.holders[x.holder].isTwice {
		x.count++
	}
	here[name] = x
}

func (m *Members) embeddedIn(number int) []holder {
	h := m.holders[number]
	var embedded []holder
	for i, isEmbedded := range h.under.Emb {
		if isEmbedded {
			with := holder{isPointedAt: h.isPointedAt, isTwice: h.isTwice, by: number, number: i}
			embedded = append(embedded, m.holdersOf(h.under.Args[i], with)...)
		}
	}
	return embedded
}

// addUnmet adds the holders, of one depth, whose types are not met at a lesser one: those of one declared type once.
func (m *Members) addUnmet(all []holder) {
	places := make(map[string]int)
	for _, h := range all {
		if _, isMet := m.met[h.t.Name]; isMet {
			continue
		}
		place, isThere := places[h.t.Name]
		if isThere {
			m.holders[place].isTwice = true
			continue
		}
		places[h.t.Name] = len(m.holders)
		m.holders = append(m.holders, h)
	}
	for name := range places {
		m.met[name] = struct{}{}
	}
}

// typeOf is x's type, in memory of its own: a zero Type, if it would be too great.
func (m *Members) typeOf(x mention) api.Type {
	if !x.isToPut {
		return types.Clone(x.t)
	}
	t := m.holders[x.holder].t
	params := make([]string, len(t.Args))
	for i := range params {
		params[i] = t.Name + "#" + strconv.Itoa(i)
	}
	return subst.Put(x.t, params, t.Args)
}

// pathOf are the numbers of the fields that are gone through to x, and of a field its own.
func (m *Members) pathOf(x mention) []int {
	var path []int
	if !x.isMethod() {
		path = append(path, x.number)
	}
	for h := m.holders[x.holder]; h.by != none; h = m.holders[h.by] {
		path = append(path, h.number)
	}
	slices.Reverse(path)
	return path
}
