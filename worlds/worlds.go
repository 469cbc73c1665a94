// Package worlds reads declarations and types from texts, for the tests of the layers that know declared types. What it
// reads may be wrong in all but its syntax: tests ask of such, too.
package worlds

import (
	"slices"
	"strconv"
	"strings"

	"sterling/api"
	"sterling/env"
	"sterling/parseexpr"
	"sterling/parsefile"
)

// World is what is declared.
type World struct {
	Env    *env.Env
	Decls  []api.Decl
	Params []api.Var
}

// Read is the world of a text, the declarations of a file of a package p, and of others. The type parameters of a function
// that is called `further` are further ones. It is false if the text can't be read, or if the declarations may not be.
func Read(src string, others ...api.Decl) (World, bool) {
	file, _, ok := parsefile.File([]byte("package p\n" + src))
	w := World{Decls: slices.Clone(others)}
	for _, n := range file.Kids {
		ok = ok && w.declare(n)
	}
	if !ok {
		return World{}, false
	}
	w.Env, ok = env.New(w.Decls, w.Params)
	return w, ok
}

// Type is the type that a text says. In it type parameters are told by their names: those of a declaration by the
// declaration's, `__`, and a number.
func (w World) Type(src string) (api.Type, bool) {
	n, ok := parseexpr.Type([]byte(src))
	if !ok {
		return api.Type{}, false
	}
	s := make(scope)
	for _, p := range w.Params {
		s[p.Name] = paramName{p.Name}
	}
	for _, d := range w.Decls {
		_, name, _ := strings.Cut(d.Name, ".")
		for i := range d.Params {
			s[name+"__"+strconv.Itoa(i)] = paramOf(d.Name, i)
		}
	}
	return s.typeOf(n), true
}

func (w *World) declare(n api.Node) bool {
	switch {
	case n.Kind == api.NType:
		w.declareType(n)
	case n.Kind != api.NFunc:
		return false
	case n.Kids[0].Kind == api.NParam:
		return w.declareMethod(n)
	default:
		w.declareParams(n)
	}
	return true
}

func (w *World) declareType(n api.Node) {
	s := make(scope)
	d := api.Decl{Name: "p." + n.Text}
	for i, p := range n.Kids[0].Kids {
		s[p.Text] = paramOf(d.Name, i)
	}
	for _, p := range n.Kids[0].Kids {
		d.Params = append(d.Params, s.typeOf(p.Kids[0]))
	}
	d.Under = s.typeOf(n.Kids[1])
	w.Decls = append(w.Decls, d)
}

// declareMethod is false if the receiver's type is not declared ahead of it.
func (w *World) declareMethod(n api.Node) bool {
	receiver := n.Kids[0].Kids[0]
	m := api.Method{Name: n.Text, Ptr: receiver.Kind == api.NStar}
	if m.Ptr {
		receiver = receiver.Kids[0]
	}
	s := make(scope)
	if receiver.Kind == api.NIndex {
		for i, arg := range receiver.Kids[1:] {
			s[arg.Text] = paramOf("p."+receiver.Kids[0].Text, i)
		}
		receiver = receiver.Kids[0]
	}
	m.Sig = s.typeOf(n.Kids[2])
	place := slices.IndexFunc(w.Decls, func(d api.Decl) bool { return d.Name == "p."+receiver.Text })
	if place < 0 {
		return false
	}
	w.Decls[place].Methods = append(w.Decls[place].Methods, m)
	return true
}

func (w *World) declareParams(n api.Node) {
	s := make(scope)
	for _, p := range n.Kids[1].Kids {
		s[p.Text] = paramName{p.Text}
	}
	for _, p := range n.Kids[1].Kids {
		w.Params = append(w.Params, api.Var{Name: p.Text, Type: s.typeOf(p.Kids[0])})
	}
}
