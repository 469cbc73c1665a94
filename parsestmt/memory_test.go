package parsestmt_test

import (
	"bytes"
	"fmt"
	"testing"

	"sterling/api"
	"sterling/parseexpr"
	"sterling/parsestmt"
	"sterling/syntax"
)

// plenty has every form of a statement in it that the grammar has.
const plenty = `{
	; a := 1; b.c += d; e[f]++; *g--; h(i, j...)
	var k T; var l = 1; var m []T = n; const o = 1; const p T = q; type r struct{ s T; U }
	{ t; { } }
	if u := 1; u == v { w() } else if x { } else { y }
	for { break }
	for z { continue L }
	for a := 0; a < b; a++ { }
	for a; b
	{ c }
	for range d { }
	for e := range f { }
	for g, h := range i { return }
	switch { }
	switch j = 1; k { case l, m: n; o; default: case p: }
	switch q
	{ case T{}: }
	switch r.(type) { case T, *U: s() ; default: }
	switch t := u.(type) { }
L:
	for { break L }
	defer func(v T) U { return func() { w := x }() }(y)
	return f(func() { a; b }, func() { for { } })
}`

// lists is all lists of nodes below n, with their spare room.
func lists(n api.Node) [][]api.Node {
	all := [][]api.Node{n.Kids[:cap(n.Kids)]}
	for _, kid := range n.Kids {
		all = append(all, lists(kid)...)
	}
	return all
}

// expectApart asks that no two lists of an answer share memory, by writing into each and looking at the others.
func expectApart(t *testing.T, n api.Node) {
	t.Helper()
	all := lists(n)
	for i, list := range all {
		for j := range list {
			list[j] = api.Node{Kind: -1 - i}
		}
	}
	for i, list := range all {
		for j := range list {
			if list[j].Kind != -1-i {
				t.Fatalf("P0.3: two lists of one answer share memory")
			}
		}
	}
}

func readWhole(src []byte) (api.Node, bool) {
	r, ok := parseexpr.New(src)
	if !ok {
		return api.Node{}, false
	}
	return parsestmt.Read(r)
}

func TestAnswersAreNewMemory(t *testing.T) {
	for name, read := range map[string]func(src []byte) (api.Node, bool){"Block": parsestmt.Block, "Read": readWhole} {
		first, ok := read([]byte(plenty))
		second, fine := read([]byte(plenty))
		if !ok || !fine || !syntax.Eq(first, second) || fmt.Sprint(first) != fmt.Sprint(second) {
			t.Fatalf("P0.5: %s: %s, %t, and then %s, %t", name, told(first), ok, told(second), fine)
		}
		expectPlaces(t, plenty, first)
		expectBack(t, first)
		before := fmt.Sprint(second)
		expectApart(t, first)
		third, _ := read([]byte(plenty))
		if fmt.Sprint(second) != before || fmt.Sprint(third) != before {
			t.Errorf("P0.3: %s: who writes into one answer changes another", name)
		}
	}
}

func TestAnswersOfOneReaderAreNewMemory(t *testing.T) {
	r := newReader(t, plenty+plenty)
	first, ok := parsestmt.Read(r)
	before := told(first)
	expectApart(t, first)
	second, fine := parsestmt.Read(r)
	if !ok || !fine || told(second) != before {
		t.Errorf("P0.3: behind an answer that was written into is read %s, %t", told(second), fine)
	}
	expectApart(t, second)
}

func TestArgumentsStay(t *testing.T) {
	for _, source := range []string{plenty, "{}", "", "{", "#", "{ a b }", "{ func() { a } }", "{ a /* c */ ; `r\r` // d\n}", "{ if a {} }",
		"{};;"} {
		room := append([]byte(source), "spare room"...)
		src := room[:len(source)]
		parsestmt.Block(src)
		if !bytes.Equal(room, []byte(source+"spare room")) {
			t.Errorf("P0.3: %q was changed to %q", source, room)
		}
		want, ok := parsestmt.Block(src)
		before := fmt.Sprint(want, ok)
		for i := range room {
			room[i] = '#'
		}
		if fmt.Sprint(want, ok) != before {
			t.Errorf("P0.3: the answer to %q keeps its source", source)
		}
	}
}

// What a call answers hangs on its arguments alone, not on calls ahead of it.
func TestSameEachTime(t *testing.T) {
	sources := []string{plenty, "{ a b }", "{}", "{ func() {} }", "#", "{", nest{"{", "}", 1}.text(300, 0), "{ x.(type) }",
		"{ if T{} == a {} }"}
	said := map[string]int{}
	for range 3 {
		for _, source := range sources {
			n, ok := parsestmt.Block([]byte(source))
			said[fmt.Sprint(source, n, ok)]++
		}
	}
	if len(said) != len(sources) {
		t.Errorf("P0.5: %d answers to %d sources", len(said), len(sources))
	}
}
