package types_test

import (
	"maps"
	"slices"
	"strings"
	"testing"

	"sterling/api"
	"sterling/types"
)

func TestTextByHand(t *testing.T) {
	for want, x := range sound() {
		if got := types.Text(x); got != want {
			t.Errorf("P11.2: %q, not %q", got, want)
		}
		if !types.May(x) {
			t.Errorf("P11.1: %s may not be", want)
		}
	}
}

// Two types that differ have two texts, alone and inside of others.
func TestTextsTellTypesApart(t *testing.T) {
	all := sound()
	texts := slices.Sorted(maps.Keys(all))
	for _, a := range texts {
		for _, b := range texts {
			if got := types.Eq(all[a], all[b]); got != (a == b) {
				t.Errorf("P11.1: Eq(%s, %s) is %v", a, b, got)
			}
		}
	}
}

func TestTextOfWhatMayNotBe(t *testing.T) {
	for _, x := range refusedTypes() {
		if got := types.Text(x.Type); got != "" {
			t.Errorf("P11.2: %s: %.100q", x.why, got)
		}
	}
}

// All kinds of names of a parameter, as one and as two parameters, arguments, fields and terms.
func TestTextsOfParameters(t *testing.T) {
	pieces := []string{"a", ",", "]", "[", " ", ":", ";", "|", ")", "}", "$1:a", "1:a", ",$1:a", "]$1:a", ";$1:a", "|$1:a", "~$1:a", " $1:a", ") $1:a", "$", "1", "11"}
	var all []api.Type
	for _, x := range pieces {
		for _, y := range append([]string{""}, pieces...) {
			one := param(x + y)
			all = append(all, one, slice(one), function(void(), one), function(one), sets(union(only(one))), sets(union(tilde(one))), named("a.T", one))
			if y != "" {
				first, second := param(x), param(y)
				all = append(all, function(void(), first, second), function(second, first), sets(union(only(first)), union(only(second))), mapOf(first, second),
					sets(union(only(first), only(second))), sets(union(only(first), tilde(second))), named("a.T", first, second))
			}
		}
	}
	byText := map[string]api.Type{}
	for _, x := range all {
		text := types.Text(x)
		if text != modelText(x) {
			t.Fatalf("P11.2: %q, not %q", text, modelText(x))
		}
		if other, ok := byText[text]; ok && (!modelEq(x, other) || !types.Eq(x, other)) {
			t.Errorf("P11.2: one text of two: %q", text)
		}
		byText[text] = x
	}
}

// Texts that rise by their types' kinds, names or numbers do not rise by their bytes.
func TestUnionsRiseByBytes(t *testing.T) {
	terms := union(only(array(9, integer)), only(array(10, integer)), tilde(basic("bool")), only(basic("uint")), only(named("z.T")), only(named("Z.T")), only(param("P")), only(slice(text)))
	random := newMaker(112)
	for range 100 {
		want := "interface{$1:P|Z.T|[10]int|[9]int|[]string|uint|z.T|~bool}"
		if got := types.Text(sets(shuffled(random, terms))); got != want {
			t.Fatalf("P11.2: %s, not %s", got, want)
		}
		var single [][]api.Term
		for _, term := range terms {
			single = append(single, union(term))
		}
		want = "interface{$1:P;Z.T;[10]int;[9]int;[]string;uint;z.T;~bool}"
		if got := types.Text(sets(shuffled(random, single)...)); got != want {
			t.Fatalf("P11.2: %s, not %s", got, want)
		}
	}
}

func TestLongTexts(t *testing.T) {
	long := strings.Repeat("x", 1<<20)
	if got, want := types.Text(slice(param(long))), "[]$1048576:"+long; got != want {
		t.Errorf("P11.2: %.40q", got)
	}
	if got, want := types.Text(named("a~"+strings.Repeat("1", 1<<20)+"."+long)), "a~"+strings.Repeat("1", 1<<20)+"."+long; got != want {
		t.Errorf("P11.2: %.40q", got)
	}
	if got, want := types.Text(structOf(member{name: long, t: integer})), "struct{"+long+" int}"; got != want {
		t.Errorf("P11.2: %.40q", got)
	}
}

func TestTextLikeModel(t *testing.T) {
	random := newMaker(1120)
	for range 20000 {
		x := random.aType(random.Intn(4))
		if got, want := types.Text(x), modelText(x); got != want {
			t.Fatalf("P11.2: %q, not %q", got, want)
		}
	}
}
