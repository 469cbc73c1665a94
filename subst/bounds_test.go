package subst_test

import (
	"fmt"
	"runtime"
	"testing"

	"sterling/api"
	"sterling/subst"
	"sterling/types"
)

// sized is a type without parameters of that many types.
func sized(count int) api.Type { return named("a.T", repeated(integer, count-1)...) }

// sizedWith is a type of that many types, parameters among them.
func sizedWith(count int, params ...api.Type) api.Type {
	return named("a.T", append(repeated(text, count-1-len(params)), params...)...)
}

func deep(t api.Type) int {
	deepest := 0
	for _, part := range parts(t) {
		deepest = max(deepest, deep(part))
	}
	return deepest + 1
}

// What comes out is just as great as may be, and one greater.
func TestPutJustAsGreatAsMayBe(t *testing.T) {
	const most = api.MaxSize
	for where, place := range allPlaces() {
		fits, beyond := sized(most-place.others), sized(most-place.others+1)
		expectPut(t, where, place.inside(p), names("P"), list(fits), place.inside(fits))
		expectSize(t, where, subst.Put(place.inside(p), names("P"), list(fits)), most)
		expectNoPut(t, where+", one beyond", place.inside(p), names("P"), list(beyond))
		expectNoPut(t, where+", one outside", slice(place.inside(p)), names("P"), list(fits))
		x := sizedWith(most-place.others-1, p, q)
		expectPut(t, where+" of two", place.inside(x), names("P", "Q"), list(text, slice(integer)), place.inside(sizedWith(most-place.others-1, text, slice(integer))))
		expectNoPut(t, where+" of two, one beyond", place.inside(x), names("P", "Q"), list(slice(text), slice(integer)))
		expectNoPut(t, where+" of two, both by one parameter", place.inside(sizedWith(most-place.others-1, p, p)), names("P"), list(slice(text)))
	}
	expectPut(t, "a parameter", p, names("P"), list(sized(most)), sized(most))
	expectNoPut(t, "a parameter", p, names("P"), list(sized(most+1)))
	full := sizedWith(most, p, q)
	expectPut(t, "no greater", full, names("P", "Q"), list(integer, of(api.KInterface)), sizedWith(most, integer, of(api.KInterface)))
	expectNoPut(t, "one greater", full, names("P"), list(slice(integer)))
	expectPut(t, "one greater, but not put", full, names("R"), list(slice(integer)), full)
}

// Each of many counts: arguments, terms that become one another, results that are nothing.
func TestPutCountsEach(t *testing.T) {
	const most = api.MaxSize
	for count := 2; count < most; count *= 2 {
		size := (most - 1) / count
		arg := sized(size)
		rest := most - 1 - size*count
		expectPut(t, "arguments", named("a.T", append(repeated(integer, rest), repeated(p, count)...)...), names("P"), list(arg), named("a.T", append(repeated(integer, rest), repeated(arg, count)...)...))
		expectNoPut(t, "arguments, one more", named("a.T", append(repeated(integer, rest+1), repeated(p, count)...)...), names("P"), list(arg))
		terms := sets(termsOf(integer, rest), termsOf(p, count))
		if rest == 0 {
			terms = sets(termsOf(p, count))
		}
		expectSize(t, "terms", subst.Put(terms, names("P"), list(arg)), most)
		expectNoPut(t, "terms, one more", sets(termsOf(integer, rest+1), termsOf(p, count)), names("P"), list(arg))
	}
	results := named("a.T", append(repeated(function(p), (most-2)/2), integer)...)
	expectSize(t, "results", subst.Put(results, names("P"), list(void())), most)
	expectNoPut(t, "results, in a slice", slice(results), names("P"), list(void()))
}

func termsOf(t api.Type, count int) []api.Term {
	var all []api.Term
	for range count {
		all = append(all, only(t))
	}
	return all
}

// What comes out is just as deep as may be, and one deeper.
func TestPutJustAsDeepAsMayBe(t *testing.T) {
	for where, place := range allPlaces() {
		for _, shallow := range []int{1, 2, 50, 100, 150} {
			inner := place.inside(nested(p, shallow))
			arg := nested(integer, api.MaxDepth-place.deep-shallow-1)
			want := place.inside(nested(integer, api.MaxDepth-place.deep-1))
			if got := deep(want); got != api.MaxDepth {
				t.Fatalf("%s: %d deep", where, got)
			}
			expectPut(t, where, inner, names("P"), list(arg), want)
			expectNoPut(t, where+", one deeper", inner, names("P"), list(slice(arg)))
			expectNoPut(t, where+", one outside", pointer(inner), names("P"), list(arg))
			expectPut(t, where+", deeper, but not put", inner, names("Q"), list(slice(arg)), inner)
		}
	}
	deepest := nested(p, api.MaxDepth-1)
	expectPut(t, "as deep as it is", deepest, names("P"), list(integer), nested(integer, api.MaxDepth-1))
	expectPut(t, "a parameter", p, names("P"), list(deepest), deepest)
	expectNoPut(t, "one deeper", deepest, names("P"), list(slice(integer)))
	expectNoPut(t, "one deeper by a result", deepest, names("P"), list(function(void())))
	expectPut(t, "as deep by a result", nested(p, api.MaxDepth-2), names("P"), list(function(void())), nested(function(void()), api.MaxDepth-2))
	expectPut(t, "deep beside shallow", mapOf(nested(p, 197), q), names("P", "Q"), list(slice(text), nested(text, 198)), mapOf(nested(text, 198), nested(text, 198)))
	expectNoPut(t, "deep beside shallow, one deeper", mapOf(nested(p, 197), q), names("P", "Q"), list(slice(text), nested(text, 199)))
}

// Types that double with each step.
func TestPutDoubling(t *testing.T) {
	for where, double := range map[string]api.Type{
		"map": mapOf(p, p), "function": function(p, p), "arguments": named("a.T", p, p), "fields": structOf(member{name: "a", t: p}, member{name: "b", t: p}),
		"method": methods(member{name: "A", t: function(p, p)}), "terms": sets(union(only(p), tilde(p))), "unions": sets(union(only(p)), union(only(p))),
	} {
		others := subst.Size(double) - 2
		x, size := integer, 1
		for step := range 64 {
			size = others + 2*size
			put := subst.Put(double, names("P"), list(x))
			if size > api.MaxSize {
				expectNoPut(t, where, double, names("P"), list(x))
				break
			}
			if got := subst.Size(put); got != size || !types.May(put) {
				t.Fatalf("P12.1: %s, step %d: %d types, not %d", where, step, got, size)
			}
			x = put
		}
	}
}

// What is too great is seen ahead of building it: built, each of these would take more memory than there is.
func TestPutSeesAhead(t *testing.T) {
	many := named("a.T", repeated(p, api.MaxSize-1)...)
	terms := sets(termsOf(p, api.MaxSize-1))
	doubled := integer
	for range 100 {
		doubled = mapOf(doubled, doubled)
	}
	for why, arg := range map[string]api.Type{"4,096 types": sized(api.MaxSize), "doubled a hundred times": doubled, "a slice of itself": selfHolding()["a slice of itself"], "arguments of themselves": selfHolding()["arguments of themselves"]} {
		for _, x := range list(many, terms, slice(many), p, mapOf(p, p)) {
			if x.Kind == api.KParam && types.May(arg) {
				continue
			}
			if got := allocated(func() { expectNoPut(t, why, x, names("P"), list(arg)) }); got > 64<<20 {
				t.Errorf("P12.1: %s: %d bytes are made", why, got)
			}
		}
	}
}

func allocated(call func()) uint64 {
	var before, after runtime.MemStats
	runtime.ReadMemStats(&before)
	call()
	runtime.ReadMemStats(&after)
	return after.TotalAlloc - before.TotalAlloc
}

// Lists far longer than types may be.
func TestPutOfLongLists(t *testing.T) {
	const many = 1 << 20
	long, args := make([]string, many), make([]api.Type, many)
	for i := range long {
		long[i], args[i] = fmt.Sprintf("P%d", i%(many/2)), array(i%api.MaxArray, integer)
	}
	x, want := list(), list()
	for i := range 2000 {
		x, want = append(x, param(fmt.Sprintf("P%d", i*200))), append(want, args[i*200])
	}
	expectPut(t, "a million names", named("a.T", x...), long, args, named("a.T", want...))
	expectPut(t, "a million args", mapOf(param("P0"), param("P1")), names("P1"), args, mapOf(param("P0"), args[0]))
	expectPut(t, "a million names, one arg", mapOf(param("P0"), param("P1")), long, list(text), mapOf(text, param("P1")))
	huge := string(make([]byte, 1<<20))
	expectPut(t, "a long name", mapOf(param(huge), param(huge[1:])), names(huge[1:], huge), list(integer, text), mapOf(text, integer))
	expectFree(t, "a long name", mapOf(param(huge), param(huge[1:])), huge[1:], huge)
}
