package subst_test

import (
	"maps"
	"slices"
	"testing"

	"sterling/api"
	"sterling/subst"
)

// fillers are types of each kind that stand in others, with parameters and without.
func fillers() []api.Type {
	all := list(p, q, slice(p), mapOf(q, p), named("a.T", p, q), function(p, q), function(void(), p), sets(union(only(p), tilde(q))), embedding("T", named("b.T", p)))
	for _, kind := range kinds() {
		if x, _ := plain(kind); kind < api.KNil {
			all = append(all, x)
		}
	}
	return all
}

func allPlaces() map[string]place {
	all := places()
	maps.Copy(all, results())
	return all
}

func TestPutInEveryPlace(t *testing.T) {
	for where, place := range allPlaces() {
		for _, arg := range fillers() {
			expectPut(t, where, place.inside(p), names("P"), list(arg), place.inside(arg))
			expectPut(t, where+", of another name", place.inside(q), names("P"), list(arg), place.inside(q))
			for outside, other := range allPlaces() {
				expectPut(t, where+" in "+outside, other.inside(place.inside(p)), names("P"), list(arg), other.inside(place.inside(arg)))
			}
		}
	}
}

func TestPutForItself(t *testing.T) {
	for _, kind := range kinds() {
		x, _ := plain(kind)
		expectPut(t, "a parameter", p, names("P"), list(x), x)
		expectPut(t, "a parameter among others", q, names("P", "Q", "R"), list(p, x, r), x)
		if kind != api.KParam {
			expectPut(t, "no parameter", x, names("P", "int", "string", "a/b.T", "a.T", "T", "A", "a", ""), slices.Repeat(list(basic("bool")), 9), x)
		}
	}
	expectPut(t, "a parameter of another name", q, names("P"), list(integer), q)
	expectPut(t, "itself", p, names("P"), list(p), p)
}

func TestPutManyAtOnce(t *testing.T) {
	x := both(methods(member{name: "A", t: function(p, q, named("a.T", p, r, array(2, p)))}, member{name: "B", t: function(void(), r)}),
		union(only(p), tilde(structOf(member{name: "T", t: pointer(named("a.T", q)), emb: true}, member{name: "b", t: mapOf(r, p)}))), union(tilde(q), only(p)))
	want := func(p, q, r api.Type) api.Type {
		return both(methods(member{name: "A", t: function(p, q, named("a.T", p, r, array(2, p)))}, member{name: "B", t: function(void(), r)}),
			union(only(p), tilde(structOf(member{name: "T", t: pointer(named("a.T", q)), emb: true}, member{name: "b", t: mapOf(r, p)}))), union(tilde(q), only(p)))
	}
	all := list(integer, slice(text), function(void(), pointer(integer)), sets(union(tilde(integer))))
	for _, a := range all {
		expectPut(t, "one", x, names("P"), list(a), want(a, q, r))
		expectPut(t, "one", x, names("Q"), list(a), want(p, a, r))
		for _, b := range all {
			expectPut(t, "two", x, names("R", "P"), list(a, b), want(b, q, a))
			for _, c := range all {
				expectPut(t, "three", x, names("Q", "R", "P"), list(a, b, c), want(c, a, b))
			}
		}
	}
	expectPut(t, "one many times", named("a.T", repeated(slice(p), 1000)...), names("P"), list(mapOf(integer, text)), named("a.T", repeated(slice(mapOf(integer, text)), 1000)...))
}

// What is put is not gone over again.
func TestPutAllAtOnce(t *testing.T) {
	pair := mapOf(p, slice(q))
	expectPut(t, "turned", pair, names("P", "Q"), list(q, p), mapOf(q, slice(p)))
	expectPut(t, "turned, the other way", pair, names("Q", "P"), list(p, q), mapOf(q, slice(p)))
	expectPut(t, "turned in a ring", named("a.T", p, q, r), names("P", "Q", "R"), list(q, r, p), named("a.T", q, r, p))
	expectPut(t, "itself", pair, names("P", "Q"), list(p, q), pair)
	expectPut(t, "itself inside", pair, names("P"), list(mapOf(p, p)), mapOf(mapOf(p, p), slice(q)))
	expectPut(t, "both inside", pair, names("P", "Q"), list(mapOf(p, q), mapOf(q, p)), mapOf(mapOf(p, q), slice(mapOf(q, p))))
	expectPut(t, "a chain", named("a.T", p, q, r), names("P", "Q", "R"), list(q, r, integer), named("a.T", q, r, integer))
	expectPut(t, "a chain, the other way", named("a.T", p, q, r), names("R", "Q", "P"), list(integer, r, q), named("a.T", q, r, integer))
	expectPut(t, "in a term", sets(union(only(p), tilde(q))), names("P", "Q"), list(q, p), sets(union(only(q), tilde(p))))
	expectPut(t, "the same name again", p, names("P", "P"), list(slice(p), integer), slice(p))
}

// Of names that stand twice the first one counts, and no more than both lists have.
func TestPutByLists(t *testing.T) {
	pair, wrong := mapOf(p, q), of(api.KSlice)
	expectPut(t, "a name twice", pair, names("P", "P"), list(integer, text), mapOf(integer, q))
	expectPut(t, "a name twice, apart", pair, names("P", "Q", "P", "Q"), list(integer, text, text, integer), mapOf(integer, text))
	expectPut(t, "a name twice, wrong at last", pair, names("P", "Q", "P", "P"), list(integer, text, wrong, api.Type{}), mapOf(integer, text))
	expectNoPut(t, "a name twice, wrong at first", pair, names("P", "Q", "P"), list(wrong, text, integer))
	expectPut(t, "a name twice, itself at first", pair, names("P", "P"), list(p, integer), pair)
	expectPut(t, "a name a thousand times", p, slices.Repeat(names("P"), 1000), append(list(text), repeated(integer, 999)...), text)
	expectPut(t, "more names", pair, names("P", "Q"), list(integer), mapOf(integer, q))
	expectPut(t, "more names, one twice", pair, names("Q", "P", "Q", "P"), list(integer), mapOf(p, integer))
	expectPut(t, "more args", pair, names("Q"), list(text, integer, wrong, api.Type{}), mapOf(p, text))
	for _, none := range [][]string{nil, {}} {
		expectPut(t, "no names", pair, none, list(integer, text), pair)
		expectPut(t, "none of either", pair, none, nil, pair)
		expectPut(t, "none of either", pair, none, list(), pair)
	}
	expectPut(t, "no args", pair, names("P", "Q"), nil, pair)
	expectPut(t, "no args", pair, names("P", "Q"), list(), pair)
	room := append(make([]api.Type, 0, 3), integer, text, text)
	expectPut(t, "args in spare room", pair, names("P", "Q"), room[:1], mapOf(integer, q))
	roomNames := names("P", "Q", "R")
	expectPut(t, "names in spare room", pair, roomNames[:1], list(integer, text), mapOf(integer, q))
}

// Parameters are told apart by all bytes of their names; nothing else has names that are put for.
func TestPutByNames(t *testing.T) {
	for _, name := range names("p", "P ", " P", "PP", "P\x00", "\x00", "", "$1:P", "P#0", "a.P", "int", "é", "\xff") {
		if name != "" {
			expectPut(t, "another name", mapOf(p, param(name)), names(name), list(integer), mapOf(p, integer))
		}
		expectPut(t, "another name", mapOf(p, slice(p)), names(name, name), list(integer, text), mapOf(p, slice(p)))
	}
	x := named("a.T", integer, embedding("T", named("a.T")), methods(member{name: "M", t: function(void())}), slice(param("int")))
	expectPut(t, "names of other things", x, names("a.T", "T", "M", "string", "a", ""), repeated(text, 6), x)
	x.Args[3] = slice(text)
	expectPut(t, "a parameter with a type's name", named("a.T", integer, x.Args[1], x.Args[2], slice(param("int"))), names("int"), list(text), x)
}

// Terms and unions that become one another stay, each where it was.
func TestPutOfTermsThatBecomeOne(t *testing.T) {
	x := sets(union(only(p), only(q), tilde(p), only(integer)), union(only(q)), union(only(p)), union(only(integer)))
	expectPut(t, "terms", x, names("P", "Q"), list(integer, integer), sets(union(only(integer), only(integer), tilde(integer), only(integer)), union(only(integer)), union(only(integer)), union(only(integer))))
	expectPut(t, "terms of parameters", x, names("P"), list(q), sets(union(only(q), only(q), tilde(q), only(integer)), union(only(q)), union(only(q)), union(only(integer))))
	expectSize(t, "terms that became one", subst.Put(x, names("P", "Q"), list(integer, integer)), 8)
	twice := sets(union(only(text), only(text)), union(only(text), only(text)))
	expectPut(t, "terms that are one", twice, names("P"), list(integer), twice)
	inner := sets(union(only(slice(p)), only(slice(q))))
	expectPut(t, "terms inside", slice(inner), names("Q"), list(p), slice(sets(union(only(slice(p)), only(slice(p))))))
}
