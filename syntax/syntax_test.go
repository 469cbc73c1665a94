package syntax_test

import (
	"fmt"
	"math/rand"
	"reflect"
	"slices"
	"strings"
	"testing"

	"sterling/api"
	"sterling/syntax"
)

// tree is a node without a place.
func tree(kind int, text string, kids ...api.Node) api.Node {
	return api.Node{Kind: kind, Text: text, Kids: kids}
}

func name(text string) api.Node { return tree(api.NName, text) }

// copied is a copy of n whose lists have marked room behind them.
func copied(n api.Node) api.Node {
	mark := api.Node{Kind: -7, Text: "spare"}
	room := make([]api.Node, 0, len(n.Kids)+2)
	for _, kid := range n.Kids {
		room = append(room, copied(kid))
	}
	n.Kids = append(room, mark, mark)[:len(n.Kids)]
	return n
}

// whole tells all of n, its spare room too.
func whole(n api.Node) string {
	var said strings.Builder
	fmt.Fprintf(&said, "%d@%d%q", n.Kind, n.At, n.Text)
	for _, kid := range n.Kids[:cap(n.Kids)] {
		said.WriteString("(" + whole(kid) + ")")
	}
	return said.String()
}

// chain is depth nodes, one below the other.
func chain(kind, depth int) api.Node {
	n := tree(kind, "x")
	for range depth - 1 {
		n = tree(kind, "x", n)
	}
	return n
}

// grown is a tree of some nodes, in a shape that random says.
func grown(random *rand.Rand, nodes int) api.Node {
	n := api.Node{Kind: random.Intn(4), At: random.Intn(9), Text: strings.Repeat("t", random.Intn(3))}
	for nodes--; nodes > 0; {
		part := 1 + random.Intn(nodes)
		n.Kids = append(n.Kids, grown(random, part))
		nodes -= part
	}
	return n
}

// all is n and all below it, each ahead of its kids, by plain calls.
func all(n *api.Node) []*api.Node {
	list := []*api.Node{n}
	for i := range n.Kids {
		list = append(list, all(&n.Kids[i])...)
	}
	return list
}

func modelDepth(n api.Node) int {
	deepest := 0
	for _, kid := range n.Kids {
		deepest = max(deepest, modelDepth(kid))
	}
	return deepest + 1
}

func expectEq(t *testing.T, a, b api.Node, want bool) {
	t.Helper()
	if syntax.Eq(a, b) != want || syntax.Eq(b, a) != want {
		t.Errorf("P6.1: Eq(%.300s, %.300s) is not %t", whole(a), whole(b), want)
	}
}

func TestEqOfSame(t *testing.T) {
	random := rand.New(rand.NewSource(6))
	for nodes := range 60 {
		a := grown(random, nodes)
		b := copied(a)
		expectEq(t, a, a, true)
		expectEq(t, a, b, true)
		for _, m := range all(&b) {
			m.At += 1 + random.Intn(5)
			expectEq(t, a, b, true)
		}
	}
	expectEq(t, api.Node{}, api.Node{Kids: []api.Node{}}, true)
	expectEq(t, tree(api.NCall, "", name("a")), tree(api.NCall, "", api.Node{Kind: api.NName, At: -3, Text: "a", Kids: []api.Node{}}), true)
}

// changes are ways in which one node is made another, if it has what they ask for.
func changes() []func(n *api.Node) {
	return []func(n *api.Node){
		func(n *api.Node) { n.Kind++ },
		func(n *api.Node) { n.Kind += 1 << 32 },
		func(n *api.Node) { n.Text += "\x00" },
		func(n *api.Node) { n.Text = "" },
		func(n *api.Node) { n.Kids = append(n.Kids, api.Node{}) },
		func(n *api.Node) { n.Kids = append([]api.Node{{Kind: 77}}, n.Kids...) },
		func(n *api.Node) { n.Kids = n.Kids[:max(len(n.Kids)-1, 0)] },
		func(n *api.Node) { n.Kids = n.Kids[min(len(n.Kids), 1):] },
		func(n *api.Node) { slices.Reverse(n.Kids) },
		func(n *api.Node) {
			if len(n.Kids) > 0 {
				n.Kids = slices.Concat(n.Kids[0].Kids, n.Kids[1:])
			}
		},
	}
}

// without is n without places and spare room, for reflect to compare.
func without(n api.Node) api.Node {
	n.At = 0
	kids := make([]api.Node, len(n.Kids))
	for i, kid := range n.Kids {
		kids[i] = without(kid)
	}
	n.Kids = kids
	return n
}

func TestEqOfOthers(t *testing.T) {
	random := rand.New(rand.NewSource(60))
	apart := 0
	for nodes := range 25 {
		a := grown(random, nodes)
		for i := range all(&a) {
			for _, change := range changes() {
				b := copied(a)
				change(all(&b)[i])
				want := reflect.DeepEqual(without(a), without(b))
				if !want {
					apart++
				}
				expectEq(t, a, b, want)
			}
		}
	}
	if apart < 1000 {
		t.Errorf("only %d pairs are apart", apart)
	}
	deep := tree(api.NParen, "", tree(api.NParen, "", tree(api.NBinary, "+", name("a"), name("b"))))
	for _, other := range []api.Node{
		{},
		name("a"),
		tree(api.NParen, "", tree(api.NParen, "", tree(api.NBinary, "+", name("b"), name("a")))),
		tree(api.NParen, "", tree(api.NParen, "", tree(api.NBinary, "-", name("a"), name("b")))),
		tree(api.NParen, "", tree(api.NParen, "", tree(api.NBinary, "+", name("a"), name("c")))),
		tree(api.NParen, "", tree(api.NParen, "", tree(api.NBinary, "+", name("a"), tree(api.NString, "b")))),
		tree(api.NParen, "", tree(api.NParen, "", tree(api.NBinary, "+", name("a")))),
		tree(api.NParen, "", tree(api.NParen, "", tree(api.NBinary, "+", name("a"), name("b"), api.Node{}))),
		tree(api.NParen, "", tree(api.NParen, "", tree(api.NBinary, "+", name("a"), tree(api.NName, "b", api.Node{})))),
		tree(api.NParen, "", tree(api.NBinary, "+", name("a"), name("b"))),
		tree(api.NParen, "", tree(api.NParen, "", tree(api.NBinary, "+", name("a"), name("b"))), api.Node{}),
	} {
		expectEq(t, deep, other, false)
	}
}

// The same nodes in the same order, hung up otherwise.
func TestEqOfOtherShapes(t *testing.T) {
	a, b, c := name("a"), name("b"), name("c")
	shapes := []api.Node{
		tree(1, "", a, b, c),
		tree(1, "", a, tree(1, "b", c)),
		tree(1, "", tree(1, "a", b), c),
		tree(1, "", tree(1, "a", b, c)),
		tree(1, "", tree(1, "a", tree(1, "b", c))),
	}
	for i, x := range shapes {
		for j, y := range shapes {
			expectEq(t, x, y, i == j)
		}
	}
}

func TestCountAndDepth(t *testing.T) {
	random := rand.New(rand.NewSource(61))
	expect := func(n api.Node, count, depth int) {
		t.Helper()
		if got := syntax.Count(n); got != count {
			t.Errorf("P6.1: Count is %d, not %d", got, count)
		}
		if got := syntax.Depth(n); got != depth {
			t.Errorf("P6.1: Depth is %d, not %d", got, depth)
		}
	}
	expect(api.Node{}, 1, 1)
	expect(name("a"), 1, 1)
	expect(tree(-1, "", api.Node{}), 2, 2)
	expect(tree(1, "", api.Node{}, api.Node{}, api.Node{}), 4, 2)
	expect(tree(1, "", name("a"), tree(1, "", tree(1, "", name("b"))), name("c")), 6, 4)
	expect(tree(1, "", make([]api.Node, 100000)...), 100001, 2)
	expect(chain(api.NParen, api.MaxDepth), api.MaxDepth, api.MaxDepth)
	expect(chain(api.NParen, 300000), 300000, 300000)
	for nodes := range 100 {
		n := grown(random, nodes)
		expect(n, max(nodes, 1), modelDepth(n))
	}
}
