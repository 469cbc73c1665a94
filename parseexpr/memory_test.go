package parseexpr_test

import (
	"bytes"
	"fmt"
	"testing"

	"sterling/api"
	"sterling/parseexpr"
	"sterling/syntax"
)

// plenty has every form of an expression in it that the grammar has, one beside the other.
const plenty = "f(-a.b[c, d](1, .5, \"s\", g...).(*T).x, &p.T[U]{a: b, c}, [n]int{}, []T(a), map[K]V{k: v}, struct{ a T; U; *p.V }{}, " +
	"func(a [n]T, b p.U) map[K]V, func(T[U], []V), interface{ m(a T, b U) V; ~A | *B | C[D] }(x), (a + b*c == d && e || !*f))"

// lists is all lists of nodes below n, with their spare room.
func lists(n api.Node) [][]api.Node {
	all := [][]api.Node{n.Kids[:cap(n.Kids)]}
	for _, kid := range n.Kids {
		all = append(all, lists(kid)...)
	}
	return all
}

// expectApart asks that no two lists of an answer share memory, by writing into each and looking at the others.
func expectApart(t *testing.T, n api.Node) {
	t.Helper()
	all := lists(n)
	for i, list := range all {
		for j := range list {
			list[j] = api.Node{Kind: -1 - i}
		}
	}
	for i, list := range all {
		for j := range list {
			if list[j].Kind != -1-i {
				t.Fatalf("P0.3: two lists of one answer share memory")
			}
		}
	}
}

func TestAnswersAreNewMemory(t *testing.T) {
	for name, read := range map[string]reader{
		"Expr": parseexpr.Expr, "with blocks": withBlocks,
		"Type": func(src []byte) (api.Node, bool) {
			return parseexpr.Type([]byte("func(a T, b G[U, V]) struct{ a T; b interface{ A | B } }"))
		},
	} {
		first, ok := read([]byte(plenty))
		second, fine := read([]byte(plenty))
		if !ok || !fine || !syntax.Eq(first, second) || fmt.Sprint(first) != fmt.Sprint(second) {
			t.Fatalf("P0.5: %s: %s, %t, and then %s, %t", name, told(first), ok, told(second), fine)
		}
		before := fmt.Sprint(second)
		expectApart(t, first)
		third, _ := read([]byte(plenty))
		if fmt.Sprint(second) != before || fmt.Sprint(third) != before {
			t.Errorf("P0.3: %s: who writes into one answer changes another", name)
		}
	}
}

func TestAnswersOfReadersAreNewMemory(t *testing.T) {
	r := newReader(t, plenty+";"+plenty+"; func(a T, b U) V ; (a T, b U) V ; x")
	first, _ := r.Expr(false)
	r.Next()
	before := fmt.Sprint(told(first))
	expectApart(t, first)
	second, ok := r.Expr(true)
	if told(second) != before || !ok {
		t.Errorf("P0.3: behind an answer that was written into is read %s, %t", told(second), ok)
	}
	r.Next()
	for _, read := range []func() (api.Node, bool){r.Type, r.Sig} {
		n, ok := read()
		if !ok || told(n) != "func(list(param:a(T) param:b(U)) V)" {
			t.Errorf("P0.3: %s, %t", told(n), ok)
		}
		expectApart(t, n)
		r.Next()
	}
	if rest(r) != "x" {
		t.Error("P7.2: the rest is gone")
	}
}

// What a block's reader answers may be its own, kept and answered again: an answer does not share it.
func TestBlocksAreCopied(t *testing.T) {
	kept := api.Node{Kind: api.NBlock, Kids: append(make([]api.Node, 0, 4), api.Node{Kind: api.NExprStmt, Kids: []api.Node{{Kind: api.NName, Text: "a"}}})}
	spare := kept.Kids[:cap(kept.Kids)]
	spare[2] = api.Node{Kind: -7}
	before := fmt.Sprint(spare)
	r := newReader(t, "f(func() {}, func() {}) ; func() {}")
	r.SetBlock(func(r *parseexpr.Reader) (api.Node, bool) {
		r.Next()
		r.Next()
		return kept, true
	})
	n, ok := r.Expr(false)
	const literal = "funclit(func(list -) block(stmt(a)))"
	if !ok || told(n) != "call(f "+literal+" "+literal+")" {
		t.Fatalf("P7.2: %s, %t", told(n), ok)
	}
	expectApart(t, n)
	if fmt.Sprint(spare) != before {
		t.Error("P0.3: who writes into an answer changes what the block's reader keeps")
	}
	r.Next()
	n, _ = r.Expr(false)
	kept.Kids[0].Kids[0].Text = "b"
	kept.Kids[0].Text = "c"
	if told(n) != literal {
		t.Errorf("P0.3: who writes into what the block's reader keeps changes an answer: %s", told(n))
	}
}

func TestArgumentsStay(t *testing.T) {
	for _, source := range []string{plenty, "a", "", "f(", "#", "func() {}", "[]T", "a /* c */ + `r\r` // d\n", "T{a b}"} {
		room := append([]byte(source), "spare room"...)
		src := room[:len(source)]
		r, ok := parseexpr.New(src)
		parseexpr.Expr(src)
		parseexpr.Type(src)
		if !bytes.Equal(room, []byte(source+"spare room")) {
			t.Errorf("P0.3: %q was changed to %q", source, room)
		}
		if !ok {
			continue
		}
		// A Reader keeps nothing of its source.
		other := newReader(t, source)
		for i := range room {
			room[i] = '#'
		}
		want, fine := other.Expr(false)
		if n, ok := r.Expr(false); ok != fine || fmt.Sprint(n) != fmt.Sprint(want) || rest(r) != rest(other) {
			t.Errorf("P0.3: a Reader of %q keeps its source", source)
		}
	}
}

// What a call answers hangs on its arguments alone, not on calls ahead of it.
func TestSameEachTime(t *testing.T) {
	sources := []string{plenty, "a +", "T{}", "func() {}", "#", "(a", nest{"(", ")", 1}.text(300, 0), "x.(type)"}
	said := map[string]int{}
	for range 3 {
		for _, source := range sources {
			n, ok := parseexpr.Expr([]byte(source))
			m, fine := parseexpr.Type([]byte(source))
			said[fmt.Sprint(source, n, ok, m, fine)]++
		}
	}
	if len(said) != len(sources) {
		t.Errorf("P0.5: %d answers to %d sources", len(said), len(sources))
	}
}
