package syntax_test

import (
	"fmt"
	"math/rand"
	"slices"
	"testing"

	"sterling/api"
	"sterling/syntax"
)

// visit is what a visitor is asked.
type visit struct {
	i, depth int
	n        string
}

// walked is what Walk asks of a visitor that answers as it is told.
func walked(n api.Node, answer func(i int) bool) []visit {
	var list []visit
	syntax.Walk(n, func(i, depth int, n api.Node) bool {
		list = append(list, visit{i, depth, whole(without(n))})
		return answer(i)
	})
	return list
}

// modelWalk is the same, by plain calls.
func modelWalk(n api.Node, answer func(i int) bool) []visit {
	var list []visit
	number := 0
	var walk func(n api.Node, depth int, shown bool)
	walk = func(n api.Node, depth int, shown bool) {
		i := number
		number++
		if shown {
			list = append(list, visit{i, depth, whole(without(n))})
			shown = answer(i)
		}
		for _, kid := range n.Kids {
			walk(kid, depth+1, shown)
		}
	}
	walk(n, 0, true)
	return list
}

func expectWalk(t *testing.T, n api.Node, answer func(i int) bool) {
	t.Helper()
	if got, want := walked(n, answer), modelWalk(n, answer); !slices.Equal(got, want) {
		t.Errorf("P6.1: Walk(%.200s): %.300s, not %.300s", whole(n), fmt.Sprint(got), fmt.Sprint(want))
	}
}

func TestWalk(t *testing.T) {
	random := rand.New(rand.NewSource(62))
	for nodes := range 40 {
		n := grown(random, nodes)
		expectWalk(t, n, func(int) bool { return true })
		expectWalk(t, n, func(int) bool { return false })
		for stop := range nodes {
			expectWalk(t, n, func(i int) bool { return i != stop })
			expectWalk(t, n, func(i int) bool { return i%(stop+1) != stop })
			expectWalk(t, n, func(i int) bool { return i < stop })
		}
		for range 20 {
			stops := random.Perm(nodes + 1)[:random.Intn(nodes+1)]
			expectWalk(t, n, func(i int) bool { return !slices.Contains(stops, i) })
		}
	}
}

func TestWalkByHand(t *testing.T) {
	n := tree(1, "a", tree(2, "b", tree(3, "c"), tree(4, "d", tree(5, "e"))), tree(6, "f"), tree(7, "g", tree(8, "h")))
	for stops, want := range map[string]string{
		"":   "0:0a 1:1b 2:2c 3:2d 4:3e 5:1f 6:1g 7:2h ",
		"a":  "0:0a ",
		"b":  "0:0a 1:1b 5:1f 6:1g 7:2h ",
		"c":  "0:0a 1:1b 2:2c 3:2d 4:3e 5:1f 6:1g 7:2h ",
		"d":  "0:0a 1:1b 2:2c 3:2d 5:1f 6:1g 7:2h ",
		"g":  "0:0a 1:1b 2:2c 3:2d 4:3e 5:1f 6:1g ",
		"bg": "0:0a 1:1b 5:1f 6:1g ",
		"df": "0:0a 1:1b 2:2c 3:2d 5:1f 6:1g 7:2h ",
	} {
		got := ""
		syntax.Walk(n, func(i, depth int, n api.Node) bool {
			got += fmt.Sprintf("%d:%d%s ", i, depth, n.Text)
			return !slices.Contains([]byte(stops), n.Text[0])
		})
		if got != want {
			t.Errorf("P6.1: Walk with stops at %q: %s, not %s", stops, got, want)
		}
	}
}

// A visitor is shown all of a node: its place, and all that is below.
func TestWalkShowsAll(t *testing.T) {
	n := api.Node{Kind: 1, At: 11, Text: "a", Kids: []api.Node{{Kind: 2, At: -12, Text: "b", Kids: []api.Node{{Kind: 3, At: 13}}}, {At: 14}}}
	want := all(&n)
	syntax.Walk(n, func(i, _ int, m api.Node) bool {
		if m.At != want[i].At || whole(slicedToLength(m)) != whole(*want[i]) {
			t.Errorf("P6.1: %d is %s, not %s", i, whole(m), whole(*want[i]))
		}
		return true
	})
}

// slicedToLength is n without spare room.
func slicedToLength(n api.Node) api.Node {
	var kids []api.Node
	for _, kid := range n.Kids {
		kids = append(kids, slicedToLength(kid))
	}
	n.Kids = slices.Clip(kids)
	return n
}

func TestWalkWithNil(t *testing.T) {
	for _, n := range []api.Node{{}, name("a"), chain(api.NParen, 1000)} {
		syntax.Walk(n, nil)
	}
}

func TestWalkOfWideAndDeep(t *testing.T) {
	const many = 200000
	wide, deep := tree(1, "", make([]api.Node, many)...), chain(1, many)
	for _, n := range []api.Node{wide, deep} {
		next := 0
		syntax.Walk(n, func(i, depth int, m api.Node) bool {
			if i != next || depth != i && depth != 1 {
				t.Fatalf("P6.1: %d at %d, not %d", i, depth, next)
			}
			next++
			return true
		})
		if next != syntax.Count(n) {
			t.Errorf("P6.1: %d nodes are visited", next)
		}
	}
	expectEq(t, deep, chain(1, many), true)
	expectEq(t, deep, chain(1, many-1), false)
	expectEq(t, wide, tree(1, "", make([]api.Node, many)...), true)
	expectEq(t, wide, tree(1, "", make([]api.Node, many-1)...), false)
}

// scribble writes into all lists below n, their spare room too, so that there is no end of nodes below n.
func scribble(n api.Node) {
	var rooms [][]api.Node
	for _, m := range all(&n) {
		rooms = append(rooms, m.Kids[:cap(m.Kids)])
	}
	for _, room := range rooms {
		for i := range room {
			room[i] = api.Node{Kind: 99, Text: "#", Kids: room}
		}
	}
}

// A visitor that writes into what it is shown changes neither the tree nor the walk.
func TestWalkIsNotLedAstray(t *testing.T) {
	random := rand.New(rand.NewSource(63))
	for nodes := range 40 {
		n := copied(grown(random, nodes))
		before := whole(n)
		var got, want []string
		for _, m := range all(&n) {
			want = append(want, fmt.Sprint(m.Kind, m.At, m.Text, len(m.Kids)))
		}
		syntax.Walk(n, func(i, _ int, m api.Node) bool {
			got = append(got, fmt.Sprint(m.Kind, m.At, m.Text, len(m.Kids)))
			if i == 0 {
				scribble(m)
			}
			return true
		})
		if !slices.Equal(got, want) {
			t.Errorf("P6.1: %q, not %q", got, want)
		}
		if whole(n) != before {
			t.Errorf("P0.3: Walk let its argument be changed: %s, not %s", whole(n), before)
		}
	}
}

func TestArgumentsStay(t *testing.T) {
	random := rand.New(rand.NewSource(64))
	for nodes := range 60 {
		a, b := copied(grown(random, nodes)), copied(grown(random, nodes))
		beforeA, beforeB := whole(a), whole(b)
		for range 2 {
			syntax.Eq(a, b)
			syntax.Eq(a, a)
			syntax.Count(a)
			syntax.Depth(a)
			syntax.Walk(a, nil)
			syntax.Walk(a, func(i, _ int, _ api.Node) bool { return i%3 != 1 })
			syntax.Print(a)
			if whole(a) != beforeA || whole(b) != beforeB {
				t.Fatalf("P0.3: a call changed its argument: %s, not %s", whole(a), beforeA)
			}
		}
	}
}
