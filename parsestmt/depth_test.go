package parsestmt_test

import (
	"runtime/debug"
	"strings"
	"testing"

	"sterling/api"
	"sterling/parseexpr"
	"sterling/parsestmt"
	"sterling/syntax"
)

// nest is a statement that holds another one, and how many levels it puts above that.
type nest struct {
	ahead, behind string
	levels        int
}

func nests() []nest {
	return []nest{
		{"{ ", " }", 1}, {"{ a; ", "; b }", 1}, {"if a { ", " }", 2}, {"if a { } else { ", " }", 2}, {"if s; a { b } else { ", " }", 2},
		{"if a { } else if b { ", " }", 3}, {"if a { } else if b { } else { ", " }", 3}, {"for { ", " }", 2}, {"for a { ", " }", 2},
		{"for a; b; c { ", " }", 2},
		{"for range a { ", " }", 2}, {"for k, v := range a { ", " }", 2}, {"L: for { ", " }", 3}, {"L: for range a { ", " }", 3},
		{"switch { case a: ", " }", 3},
		{"switch { default: b; ", "; case c: }", 3}, {"switch a; b { case c: ", " }", 3}, {"switch a.(type) { case b: ", " }", 3},
		{"switch a := b.(type) { default: ", "\n }", 3}, {"L: switch { case a: ", " }", 4}, {"L: switch a.(type) { default: ", " }", 4},
		{"func() { ", " }", 3}, {"f(func() { ", " })", 4}, {"a := func() { ", " }", 3}, {"return func() { ", " }", 3}, {"defer func() { ",
			" }()", 4},
		{"a = func() { ", " }", 3}, {"if func() { ", " } { }", 3}, {"if a := func() { ", " }; a { }", 4}, {"for a := func() { ",
			" }; ; { }", 4},
		{"for ; ; func() { ", " } { }", 4}, {"for range func() { ", " } { }", 3}, {"switch func() { ", " } { }", 3}, {"switch func() { ",
			" }.(type) { }", 3},
		{"switch { case func() { ", " }: }", 5}, {"var a = func() { ", " }", 3}, {"const a = func() { ", " }", 3}, {"type a [func() { ",
			" }]b", 4},
		{"func() { ", " }++", 3}, {"-(func() { ", " })", 5},
	}
}

// text is a block of the form in itself some times, round an expression that is some levels deep.
func (n nest) text(times, brackets int) string {
	return "{ " + strings.Repeat(n.ahead, times) + strings.Repeat("(", brackets) + "a" + strings.Repeat(")",
		brackets) + strings.Repeat(n.behind, times) + " }"
}

// outside is how many levels stand round an expression that is a statement of a block, with itself.
const outside = 3

func TestDeepest(t *testing.T) {
	for _, n := range nests() {
		most := (api.MaxDepth - outside - 2) / n.levels
		for _, times := range []int{0, 1, most / 2, most} {
			brackets := api.MaxDepth - outside - times*n.levels
			source := n.text(times, brackets)
			tree, ok := parsestmt.Block([]byte(source))
			if !ok || syntax.Depth(tree) != api.MaxDepth {
				t.Errorf("P8.1: %q .. %q, %d times, is read as a tree %d deep, %t", n.ahead, n.behind, times, syntax.Depth(tree), ok)
			}
			expectBack(t, tree)
			expectNone(t, n.text(times, brackets+1), n.text(times, brackets+2), n.text(times+1, brackets), n.text(times,
				brackets+api.MaxDepth))
		}
		for _, times := range []int{api.MaxDepth/n.levels + 1, api.MaxDepth, 2*api.MaxDepth + 1, 20000} {
			expectNone(t, n.text(times, 0), "{"+strings.Repeat(n.ahead, times))
		}
	}
}

// Blocks alone, each the only one in the next.
func TestDeepestBlocks(t *testing.T) {
	blocks := func(depth int) string { return strings.Repeat("{", depth) + strings.Repeat("}", depth) }
	for _, depth := range []int{1, 2, 100, api.MaxDepth - 1, api.MaxDepth} {
		if n, ok := parsestmt.Block([]byte(blocks(depth))); !ok || syntax.Depth(n) != depth {
			t.Errorf("P8.1: %d blocks are read as a tree %d deep, %t", depth, syntax.Depth(n), ok)
		}
	}
	for _, depth := range []int{api.MaxDepth + 1, api.MaxDepth + 2, 2 * api.MaxDepth, 100000} {
		expectNone(t, blocks(depth))
	}
}

// Each `else if` is a level below the one ahead of it.
func TestDeepestElses(t *testing.T) {
	chain := func(ifs int, end string) string { return "{" + strings.Repeat("if a {} else ", ifs) + end + "}" }
	for end, levels := range map[string]int{"{}": 1, "if b {}": 2, "{ c }": 3, "if b { c }": 4} {
		most := api.MaxDepth - 1 - levels
		if n, ok := parsestmt.Block([]byte(chain(most, end))); !ok || syntax.Depth(n) != api.MaxDepth {
			t.Errorf("P8.1: %d times `else`, then %s, are read as a tree %d deep, %t", most, end, syntax.Depth(n), ok)
		}
		for _, ifs := range []int{most + 1, most + 2, 2 * api.MaxDepth, 50000} {
			expectNone(t, chain(ifs, end))
		}
	}
	// Chains side by side are no deeper than one.
	links := strings.Repeat("if a {} else ", api.MaxDepth-3) + "if b {}\n"
	if n, ok := parsestmt.Block([]byte("{" + strings.Repeat(links, 5) + "}")); !ok || syntax.Depth(n) != api.MaxDepth {
		t.Errorf("P8.1: long chains are read as a tree %d deep, %t", syntax.Depth(n), ok)
	}
}

// Whatever is deepest stands beside whatever else is.
func TestDeepestSideBySide(t *testing.T) {
	var source strings.Builder
	for range 3 {
		for _, n := range nests() {
			times := (api.MaxDepth - outside - 2) / n.levels
			inner := n.text(times, api.MaxDepth-outside-times*n.levels)
			source.WriteString(strings.TrimSuffix(strings.TrimPrefix(inner, "{"), "}") + "\n")
		}
	}
	n, ok := parsestmt.Block([]byte("{" + source.String() + "}"))
	if !ok || syntax.Depth(n) != api.MaxDepth || len(n.Kids) != 3*len(nests()) {
		t.Errorf("P8.1: %d deep trees side by side are read as one %d deep, %t", len(n.Kids), syntax.Depth(n), ok)
	}
	expectNone(t, "{ {"+source.String()+"} }")
}

// A block that is read at a Reader is as deep by itself as may be, wherever it stands.
func TestDeepestRead(t *testing.T) {
	deepest := nest{"{ ", " }", 1}.text(50, api.MaxDepth-outside-50)
	r := newReader(t, strings.Repeat(deepest+" ; ", 3)+"{"+deepest+"}")
	for range 3 {
		if n, ok := parsestmt.Read(r); !ok || syntax.Depth(n) != api.MaxDepth || r.Next().Text != ";" {
			t.Errorf("P8.1: a tree of %d is read as %d deep, %t", api.MaxDepth, syntax.Depth(n), ok)
		}
	}
	if n, ok := parsestmt.Read(r); ok {
		t.Errorf("P8.1: what is %d deep is read", syntax.Depth(n))
	}
	// As the block of a function literal it counts as a part of that.
	for brackets := api.MaxDepth - outside - 2; brackets < api.MaxDepth; brackets++ {
		r := newReader(t, "func() "+nest{}.text(0, brackets))
		r.SetBlock(parsestmt.Read)
		n, ok := r.Expr(false)
		if depth := 1 + outside + brackets; ok != (depth <= api.MaxDepth) || ok && syntax.Depth(n) != depth {
			t.Errorf("P8.1: a function literal of %d levels is read as %d deep, %t", depth, syntax.Depth(n), ok)
		}
	}
}

// Sources that nest without end are left, and calls are not nested as deep as they are: there is little room for that.
func TestSourcesWithoutEnd(t *testing.T) {
	const many = 400000
	defer debug.SetMaxStack(debug.SetMaxStack(4 << 20))
	for _, ahead := range []string{
		"{", "if a {", "if a {} else ", "for {", "switch {case a:", "func() {", "f(func() {", "if func() {", "L: for a; b; c {", "x := ",
		"return ",
		"(", "switch a.(type) { default: ",
	} {
		open := "{" + strings.Repeat(ahead, many/len(ahead))
		expectNone(t, open, open+strings.Repeat("}", many/len(ahead)))
	}
	r := newReader(t, strings.Repeat("func() {", many/8))
	r.SetBlock(func(r *parseexpr.Reader) (api.Node, bool) { return parsestmt.Read(r) })
	if _, ok := r.Expr(false); ok {
		t.Error("P8.1: function literals without end are read")
	}
}

// The same of function literals in expressions that are deep by themselves.
func TestDeepExpressionsWithoutEnd(t *testing.T) {
	defer debug.SetMaxStack(debug.SetMaxStack(128 << 20))
	brackets := strings.Repeat("(", api.MaxDepth-10)
	closing := strings.ReplaceAll(brackets, "(", ")")
	for _, times := range []int{2, 50, api.MaxDepth - 1, api.MaxDepth, 2 * api.MaxDepth} {
		open := strings.Repeat(brackets+"func() { ", times)
		expectNone(t, "{"+open, "{"+open+"a"+strings.Repeat("}"+closing, times)+"}",
			"{"+strings.Repeat(strings.Repeat("{", 20)+brackets+"func() { ", times))
	}
}

// What is wide is no deeper for that.
func TestWide(t *testing.T) {
	const many = 100000
	for around, piece := range map[string]string{
		"{ $ }": "a()\n", "{ $ a }": "if a { b };", "{ $; }": "for a := range b {}; ", "{ $\n}": "switch { case a: b }\n",
		"{;$}": "a := func() { b };", "{ ; $ } ": "{};",
	} {
		n, ok := parsestmt.Block([]byte(strings.ReplaceAll(around, "$", strings.Repeat(piece, many))))
		if least := many; !ok || len(n.Kids) < least || len(n.Kids) > least+1 {
			t.Errorf("P8.1: %s has %d statements, %t", around, len(n.Kids), ok)
		}
	}
	n, ok := parsestmt.Block([]byte("{ switch {" + strings.Repeat("case a: b\n", many) + "} }"))
	if !ok || len(n.Kids[0].Kids) != many+2 {
		t.Errorf("P8.1: a wide switch: %t", ok)
	}
	n, ok = parsestmt.Block([]byte("{ switch x.(type) { case " + strings.Repeat("a, ", many) + "b: } }"))
	if !ok || len(n.Kids[0].Kids[1].Kids[0].Kids) != many+1 {
		t.Errorf("P8.1: a wide case: %t", ok)
	}
	if n, ok := parsestmt.Block([]byte("{" + strings.Repeat(";\n", many) + "}")); !ok || len(n.Kids) != 0 {
		t.Errorf("P8.1: many empty statements: %d, %t", len(n.Kids), ok)
	}
}
