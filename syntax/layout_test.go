package syntax_test

import (
	"fmt"
	"math/rand"
	"strings"
	"testing"

	"sterling/api"
	"sterling/syntax"
)

const untidy = `package shop; import "a/b" ; import "c"
var   Total float64=0.5;const Most int = 1e3
type Number [ ]int; type Set[K comparable, V ~int|string,] struct {b.Item; keys map[K]V; next *Set[K,V]}
type Shape interface { Area ( ) float64 ; ~int | ~string }
func (s *Set[K,V]) Each(visit func(K) bool, _ interface{}) Number {
	{ } ; outer : for i , v := range s . keys { if w := v; w > 0 { continue outer } else if i==Most { break outer } else { s.n++ } }
	for ;; { }; for i:=0; i<10; i++ { defer visit ( K ( i ) ) }
	for ; Total > 1; { Total-=- -1 }
	switch x := s.any.(type) { case int , [ ] string : print(x); return Number{1,2:3} ; default : }
	switch { case f(s.all ...): }
	g := func () { return }
	return *&nothing
}
`

const tidy = `package shop

import "a/b"
import "c"

var Total float64 = 0.5

const Most int = 1e3

type Number []int

type Set[K comparable, V interface{ ~int | string }] struct {
	b.Item
	keys map[K]V
	next *Set[K, V]
}

type Shape interface {
	Area() float64
	~int | ~string
}

func (s *Set[K, V]) Each(visit func(K) bool, _ interface{}) Number {
	{}
	outer:
	for i, v := range s.keys {
		if w := v; w > 0 {
			continue outer
		} else if i == Most {
			break outer
		} else {
			s.n++
		}
	}
	for {}
	for i := 0; i < 10; i++ {
		defer visit(K(i))
	}
	for Total > 1 {
		Total -= - -1
	}
	switch x := s.any.(type) {
	case int, []string:
		print(x)
		return Number{1, 2: 3}
	default:
	}
	switch {
	case f(s.all...):
	}
	g := func() {
		return
	}
	return *&nothing
}
`

func TestPrintIsTidy(t *testing.T) {
	n, ok := modelFile(untidy)
	if got := syntax.Print(n); !ok || got != tidy {
		t.Errorf("%t, %s", ok, got)
	}
	expectText(t, modelFile, untidy)
	expectText(t, modelFile, tidy)
}

const someKinds = api.NImport + 4

// Trees that nothing reads have some text, and the same each time.
func TestPrintOfTreesThatNothingReads(t *testing.T) {
	expectSome := func(n api.Node) {
		t.Helper()
		if syntax.Print(n) != syntax.Print(n) {
			t.Errorf("P0.5: Print(%.300s) is another text each time", whole(n))
		}
	}
	for kind := -2; kind < someKinds; kind++ {
		for of := -2; of < someKinds; of++ {
			var kids []api.Node
			for range 6 {
				for _, text := range []string{"", "x", "...", "\x00\n\xff"} {
					expectSome(tree(kind, text, kids...))
				}
				kids = append(kids, tree(of, "y", name("z")))
			}
		}
	}
	expectSome(tree(1<<62, "\xff"))
	expectSome(tree(-1<<63, "`"))
}

func TestPrintOfTreesTooDeepToRead(t *testing.T) {
	const deep = 20000
	for kind := range someKinds {
		n := name("x")
		for i := range deep {
			kids := make([]api.Node, 1+i%4)
			kids[i%len(kids)] = n
			n = tree(kind, "", kids...)
		}
		syntax.Print(n)
	}
	for _, kind := range []int{api.NUnary, api.NDot, api.NBlock, api.NStruct, api.NIf, api.NFor, api.NCase, api.NFile} {
		syntax.Print(chain(kind, 10*deep))
	}
	n := name("x")
	for range deep {
		n = paren(n)
	}
	if text := syntax.Print(n); text != strings.Repeat("(", deep)+"x"+strings.Repeat(")", deep) {
		t.Errorf("Print of brackets in brackets is %.100q", text)
	}
}

func TestPrintOfAnyTree(t *testing.T) {
	random := rand.New(rand.NewSource(67))
	for range 3000 {
		n := grown(random, 1+random.Intn(60))
		for _, m := range all(&n) {
			m.Kind = random.Intn(someKinds)
		}
		if text := syntax.Print(n); text != syntax.Print(copied(n)) {
			t.Errorf("P0.5: Print(%.300s) is another text each time", whole(n))
		}
	}
}

func TestPrintOfLongLists(t *testing.T) {
	const many = 50000
	var kids, statements []api.Node
	for i := range many {
		kids = append(kids, tree(api.NInt, fmt.Sprint(i)))
		statements = append(statements, stmt(kids[i]))
	}
	expectBack(t, modelExpr, tree(api.NCall, "", append([]api.Node{name("f")}, kids...)...))
	expectBack(t, modelExpr, tree(api.NLit, "", append([]api.Node{name("T")}, kids...)...))
	expectBack(t, modelBlock, block(statements...))
	long := name(strings.Repeat("x", 1<<20))
	expectBack(t, modelExpr, binary("+", long, long))
}
