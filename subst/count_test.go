package subst_test

import (
	"fmt"
	"slices"
	"testing"

	"sterling/api"
	"sterling/subst"
)

func TestFree(t *testing.T) {
	for where, place := range allPlaces() {
		expectFree(t, where, place.inside(p), "P")
		expectFree(t, where+", without", place.inside(integer))
		for outside, other := range allPlaces() {
			expectFree(t, where+" in "+outside, other.inside(place.inside(q)), "Q")
			expectFree(t, where+" beside "+outside, mapOf(other.inside(r), place.inside(q)), "Q", "R")
		}
	}
	for _, kind := range kinds() {
		x, _ := plain(kind)
		if kind == api.KParam {
			expectFree(t, "a parameter", x, x.Name)
			continue
		}
		expectFree(t, fmt.Sprintf("kind %d", kind), x)
	}
	for _, x := range bare() {
		expectFree(t, "without", x)
	}
	expectFree(t, "names that are none", named("a.P", basic("int"), embedding("Q", named("a.Q")), methods(member{name: "R", t: function(void())})))
}

// In the order of their bytes, each once.
func TestFreeRises(t *testing.T) {
	expectFree(t, "turned", named("a.T", r, q, p), "P", "Q", "R")
	expectFree(t, "many times", function(p, q, p, q, slice(q), pointer(p)), "P", "Q")
	expectFree(t, "terms ahead of methods", both(methods(member{name: "A", t: function(r)}), union(only(q), tilde(p)), union(only(r), only(q))), "P", "Q", "R")
	expectFree(t, "in two structs", mapOf(embedding("T", named("a.T", q)), structOf(member{name: "b", t: q}, member{name: "a", t: p})), "P", "Q")
	rising := names("\x00", " ", "$", "A", "A ", "AA", "B", "P", "P#0", "P#1", "P#10", "P#2", "Z", "_", "a", "a.T#0", "aa", "z", "~", "\x7f", "\u00e9", "\u4e16", "\U0001F600", "\xff")
	if !slices.IsSorted(rising) {
		t.Fatal("the names do not rise")
	}
	random := newMaker(122)
	for range 200 {
		args := list()
		for _, name := range append(slices.Clone(rising), rising...) {
			args = append(args, pick(random, param(name), slice(param(name))))
		}
		random.Shuffle(len(args), func(i, j int) { args[i], args[j] = args[j], args[i] })
		expectFree(t, "by bytes", named("a.T", args...), rising...)
	}
}

func TestFreeOfManyNames(t *testing.T) {
	var want []string
	args := list()
	for i := range api.MaxSize - 1 {
		name := fmt.Sprintf("p.T#%d", i*7919%(api.MaxSize-1))
		want, args = append(want, name), append(args, param(name))
	}
	slices.Sort(want)
	expectFree(t, "as many as may be", named("a.T", args...), want...)
	expectFree(t, "one more than may be", named("a.T", append(args, p)...))
	expectFree(t, "one, as often as may be", named("a.T", repeated(p, api.MaxSize-1)...), "P")
	expectFree(t, "as deep as may be", nested(p, api.MaxDepth-1), "P")
	expectFree(t, "deeper than may be", nested(p, api.MaxDepth))
}

func TestSize(t *testing.T) {
	for _, kind := range kinds() {
		x, size := plain(kind)
		expectSize(t, fmt.Sprintf("kind %d", kind), x, size)
		if kind >= api.KNil {
			continue
		}
		for where, place := range allPlaces() {
			expectSize(t, where, place.inside(x), size+place.others)
			for outside, other := range allPlaces() {
				expectSize(t, where+" in "+outside, other.inside(place.inside(x)), size+place.others+other.others)
			}
		}
	}
	for _, x := range bare() {
		expectSize(t, "alone", x, 1)
	}
	for size, x := range map[int]api.Type{
		1: of(api.KStruct),
		2: function(void()),
		3: methods(member{name: "A", t: function(void())}),
		4: function(void(), integer, integer),
		5: sets(union(only(integer), only(integer)), union(only(integer), tilde(integer))),
		6: sets(union(only(slice(p)), only(slice(p))), union(tilde(p))),
		7: named("a.T", named("a.T", integer), named("a.T"), pointer(named("error")), p),
		9: mapOf(mapOf(mapOf(p, p), p), mapOf(p, p)),
	} {
		expectSize(t, "by hand", x, size)
	}
	expectSize(t, "of any", of(api.KInterface), 1)
	expectSize(t, "of a great array", array(api.MaxArray, p), 2)
}

func TestSizeAtBound(t *testing.T) {
	const most = api.MaxSize
	for count := most - 2; count <= most+2; count++ {
		want := count
		if count > most {
			want = 0
		}
		expectSize(t, "arguments", sized(count), want)
		expectSize(t, "terms that stand twice", sets(termsOf(integer, count-1)), want)
		expectSize(t, "unions", sets(termsOf(integer, 1), termsOf(p, 1), termsOf(integer, count-3)), want)
		expectSize(t, "parameters and no result", function(void(), repeated(p, count-2)...), want)
		expectSize(t, "two halves", mapOf(sized(most/2), sized(count-most/2-1)), want)
		expectSize(t, "shared halves", mapOf(sized(count), sized(count)), 0)
	}
	expectSize(t, "as deep as may be", nested(p, api.MaxDepth-1), api.MaxDepth)
	expectSize(t, "deeper than may be", nested(p, api.MaxDepth), 0)
}

// Size and Free go with what Put makes.
func TestCountsOfWhatIsPut(t *testing.T) {
	for where, place := range allPlaces() {
		for _, arg := range fillers() {
			put := subst.Put(mapOf(place.inside(p), r), names("P"), list(arg))
			expectSize(t, where, put, 2+place.others+subst.Size(arg))
			free := append(subst.Free(arg), "R")
			slices.Sort(free)
			expectFree(t, where, put, free...)
		}
	}
}
