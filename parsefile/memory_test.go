package parsefile_test

import (
	"bytes"
	"fmt"
	"testing"

	"sterling/api"
	"sterling/parsefile"
)

// plenty has every form of a declaration in it that the grammar has.
const plenty = `// c
package p
import "a"; import "b/c"
import ` + "`d`" + `
var a T; var b = 1; var c T = 2
const d = 3; const e T = 4
type f []T; type g [n]T; type h [2 * n]T; type i struct { a T; *U; p.V }
type j interface { m(T) U; ~int | string }
type k[P any] P; type l[P ~int, Q A | ~B, R *C, S (D),] map[P]Q
func m() { }
func n(a T, b []U,) V { x := func(c T) { return c }; { }; for { break } ; return x }
func o[P C, Q ~[]P](a P) (Q) { }
func (r T) q() { }
func (r *T) r(a T) { r.s(func() { t() }) }
func (r T[A]) s() U { return }
func (_ *T[A, _,]) t() { }
var u = v(func() { w }, func(a T) U { return func() { } })
const x = [2]T{1, y: 2}
`

// lists is all lists of nodes below n, with their spare room.
func lists(n api.Node) [][]api.Node {
	all := [][]api.Node{n.Kids[:cap(n.Kids)]}
	for _, kid := range n.Kids {
		all = append(all, lists(kid)...)
	}
	return all
}

// expectApart asks that no two lists of an answer share memory, by writing into each and looking at the others.
func expectApart(t *testing.T, n api.Node) {
	t.Helper()
	all := lists(n)
	for i, list := range all {
		for j := range list {
			list[j] = api.Node{Kind: -1 - i}
		}
	}
	for i, list := range all {
		for j := range list {
			if list[j].Kind != -1-i {
				t.Fatalf("P0.3: two lists of one answer share memory")
			}
		}
	}
}

func TestAnswersAreNewMemory(t *testing.T) {
	first, at, ok := parsefile.File([]byte(plenty))
	second, place, fine := parsefile.File([]byte(plenty))
	if !ok || !fine || at != 0 || place != 0 || fmt.Sprint(first) != fmt.Sprint(second) {
		t.Fatalf("P0.5: %s, %d, %t, and then %s, %d, %t", told(first), at, ok, told(second), place, fine)
	}
	expectShape(t, plenty, first)
	expectBack(t, first)
	before := fmt.Sprint(second)
	expectApart(t, first)
	third, _, _ := parsefile.File([]byte(plenty))
	if fmt.Sprint(second) != before || fmt.Sprint(third) != before {
		t.Errorf("P0.3: who writes into one answer changes another")
	}
	expectApart(t, second)
	if fmt.Sprint(third) != before {
		t.Errorf("P0.3: who writes into one answer changes another")
	}
}

func TestArgumentsStay(t *testing.T) {
	for _, source := range []string{plenty, "package p", "", "package", "#", "package p; x", "package p; var x = func() { a }",
		"package p; import `r\r` // d\n",
		"package p; var x = `r\r`", "package p; #", "package p;;", "package p; func f(T) { }"} {
		room := append([]byte(source), "spare room"...)
		src := room[:len(source)]
		n, at, ok := parsefile.File(src)
		if !bytes.Equal(room, []byte(source+"spare room")) {
			t.Errorf("P0.3: %q was changed to %q", source, room)
		}
		before := fmt.Sprint(n, at, ok)
		for i := range room {
			room[i] = '#'
		}
		if fmt.Sprint(n, at, ok) != before {
			t.Errorf("P0.3: the answer to %q keeps its source", source)
		}
	}
}

// Bytes behind the end of a source are no part of it.
func TestSpareRoomIsNotRead(t *testing.T) {
	for source, behind := range map[string]string{"package p": "q", "package p; var x T": " = 1", "package p; func f()": " { }",
		"package p; var x =": " 1", "package p; type T[P": "]U"} {
		want := fmt.Sprint(parsefile.File([]byte(source)))
		if got := fmt.Sprint(parsefile.File([]byte(source + behind)[:len(source)])); got != want {
			t.Errorf("P0.3: %q with %q behind it is read as %s, not %s", source, behind, got, want)
		}
	}
}

// What a call answers hangs on its arguments alone, not on calls ahead of it.
func TestSameEachTime(t *testing.T) {
	sources := []string{plenty, "package p", "package p; x", "package p; func f() { }", "#", "", "package p; func f(T) { }",
		inHole("var x = $", 300), "package p; var x = func() { y }",
		"package p; var x = func() { y z }", "package p; type T[n*2] U", "package p; type T [n]U"}
	said := map[string]int{}
	for range 3 {
		for _, source := range sources {
			n, at, ok := parsefile.File([]byte(source))
			said[fmt.Sprint(source, n, at, ok)]++
		}
	}
	if len(said) != len(sources) {
		t.Errorf("P0.5: %d answers to %d sources", len(said), len(sources))
	}
}
