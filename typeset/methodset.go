package typeset

import (
	"strconv"

	"sterling/api"
	"sterling/env"
	"sterling/subst"
)

// holder is what has methods and fields: a declared type or a struct.
type holder struct {
	t api.Type
	// Is there a pointer on the way to it? Then its methods with pointer receivers count.
	isPointedAt bool
	// Is it embedded more than once at that depth? Then it has nothing that is one alone.
	isTwice bool
}

// member is a method or a field. Only a method that counts, and is one alone, has a type.
type member struct {
	count int
	sig   api.Type
}

// search looks for members, depth by depth.
type search struct {
	e *env.Env
	// all are those that are found, by their names, each at the least depth.
	all map[string]member
	// met are the names of declared types. At a greater depth one has nothing that isn't found already, whatever its
	// arguments are.
	met map[string]struct{}
}

// methodSet are the types of the methods in the method set of t, which is no interface and no type parameter, by their
// names. What is none of them has a zero Type.
func methodSet(e *env.Env, t api.Type) map[string]api.Type {
	s := search{e, make(map[string]member), make(map[string]struct{})}
	for open := s.unmet(s.holders(t, false)); len(open) > 0; {
		open = s.unmet(s.lookInto(open))
	}
	sigs := make(map[string]api.Type, len(s.all))
	for name, m := range s.all {
		if m.count == 1 {
			sigs[name] = m.sig
		}
	}
	return sigs
}

// holders are where t's members are: none or one.
func (s *search) holders(t api.Type, isPointedAt bool) []holder {
	if t.Kind == api.KPointer {
		return s.pointedAt(t.Args[0])
	}
	if kindBeneath(s.e, t) == api.KPointer {
		return nil
	}
	return []holder{{t: t, isPointedAt: isPointedAt}}
}

func (s *search) pointedAt(t api.Type) []holder {
	switch kindBeneath(s.e, t) {
	case api.KPointer, api.KInterface:
		return nil
	}
	return []holder{{t: t, isPointedAt: true}}
}

// lookInto finds the members of holders at one depth, and answers those that they embed.
func (s *search) lookInto(open []holder) []holder {
	here := make(map[string]member)
	var embedded []holder
	for _, h := range open {
		embedded = append(embedded, s.lookIntoOne(h, here)...)
	}
	for name, m := range here {
		if _, isFound := s.all[name]; !isFound {
			s.all[name] = m
		}
	}
	return embedded
}

func (s *search) lookIntoOne(h holder, here map[string]member) []holder {
	if isInterface(s.e, h.t) {
		names, sigs, _ := Methods(s.e, h.t)
		for i, name := range names {
			h.addTo(here, name, sigs[i])
		}
		return nil
	}
	s.findDeclared(h, here)
	under, _ := s.e.Under(h.t)
	if under.Kind != api.KStruct {
		return nil
	}
	var embedded []holder
	for i, name := range under.Names {
		h.addTo(here, name, api.Type{})
		if under.Emb[i] {
			embedded = append(embedded, s.embeddedIn(h, under.Args[i])...)
		}
	}
	return embedded
}

// findDeclared finds the methods that are declared of h's type.
func (s *search) findDeclared(h holder, here map[string]member) {
	if h.t.Kind != api.KNamed {
		return
	}
	d, _ := s.e.Decl(h.t.Name)
	params := make([]string, len(d.Params))
	for i := range params {
		params[i] = d.Name + "#" + strconv.Itoa(i)
	}
	for _, m := range d.Methods {
		if m.Ptr && !h.isPointedAt {
			h.addTo(here, m.Name, api.Type{})
		} else {
			h.addTo(here, m.Name, subst.Put(m.Sig, params, h.t.Args))
		}
	}
}

func (s *search) embeddedIn(h holder, t api.Type) []holder {
	embedded := s.holders(t, h.isPointedAt)
	for i := range embedded {
		embedded[i].isTwice = h.isTwice
	}
	return embedded
}

func (h holder) addTo(here map[string]member, name string, sig api.Type) {
	count := here[name].count + 1
	if h.isTwice {
		count++
	}
	here[name] = member{count, sig}
}

// unmet are the holders whose types are not met at a lesser depth, those of one declared type once.
func (s *search) unmet(all []holder) []holder {
	var fresh []holder
	places := make(map[string]int)
	for _, h := range all {
		if _, isMet := s.met[h.t.Name]; isMet {
			continue
		}
		place, isThere := places[h.t.Name]
		if isThere {
			fresh[place].isTwice = true
			continue
		}
		places[h.t.Name] = len(fresh)
		fresh = append(fresh, h)
	}
	for name := range places {
		s.met[name] = struct{}{}
	}
	return fresh
}
