package parseexpr_test

import (
	"strings"
	"testing"

	"sterling/api"
	"sterling/parseexpr"
	"sterling/syntax"
)

// nest is a form that holds another one, and how many levels it puts above that.
type nest struct {
	ahead, behind string
	levels        int
}

func exprNests() []nest {
	return []nest{
		{"(", ")", 1}, {"- ", "", 1}, {"!", "", 1}, {"*", "", 1}, {"& ", "", 1}, {"f(", ")", 1}, {"f(x, ", ",)", 1}, {"f(", "...)", 1},
		{"f[", "]", 1}, {"f[x, ", ", y]", 1},
		{"", ".b", 1}, {"", "[x]", 1}, {"", "()", 1}, {"", "(x, y)", 1}, {"", ".(T)", 1}, {"", " + x", 1}, {"", " || x", 1},
		{"", " * x", 1}, {"x + (", ")", 2}, {"x == y * (", ")", 3},
		{"T{", "}", 1}, {"T{x: ", ",}", 2}, {"T{", ": x}", 2}, {"[]T{", "}", 1}, {"[", "]T", 1}, {"[", "]T{}", 2},
		{"struct{a [", "]T}{}", 4}, {"map[K]V{k: ", "}", 2}, {"T[x]{", "}", 1}, {"T[", "]{}", 2},
		{"func([", "]T)", 4}, {"interface{ ~[", "]T }", 4}, {"x.([", "]T)", 2}, {"G[[", "]T]{}", 3},
	}
}

func typeNests() []nest {
	return []nest{
		{"(", ")", 1}, {"*", "", 1}, {"[]", "", 1}, {"[n]", "", 1}, {"map[", "]T", 1}, {"map[T]", "", 1}, {"T[", "]", 1},
		{"p.T[A, ", "]", 1}, {"func() ", "", 1}, {"func(", ")", 3}, {"func(a ", ") b", 3}, {"func(a T, b ", ",)", 3},
		{"struct{a ", "}", 2}, {"struct{a T; b ", ";}", 2}, {"interface{", "}", 2}, {"interface{~", "}", 3},
		{"interface{T | ~T | ", "}", 2}, {"interface{m(", ")}", 5}, {"interface{m(a T, b ", ") c}", 5}, {"interface{m() ", "}", 3},
		{"[T{x: [1]", "{}}]U", 5},
	}
}

// text is the form in itself some times, round brackets that are some levels deep.
func (n nest) text(times, brackets int) string {
	return strings.Repeat(n.ahead, times) + strings.Repeat("(", brackets) + "a" + strings.Repeat(")", brackets) + strings.Repeat(n.behind,
		times)
}

// expectDeepest asks that the form is read as deep as may be and no deeper.
func expectDeepest(t *testing.T, read reader, n nest) {
	t.Helper()
	// What stands beside the hole of a form may be deeper than a name: brackets in it make that unseen.
	least := 0
	if once, _ := read([]byte(n.text(1, 0))); syntax.Depth(once) > n.levels+1 {
		least = 2
	}
	most := (api.MaxDepth - 1 - least) / n.levels
	for _, times := range []int{1, most / 2, most} {
		brackets := api.MaxDepth - 1 - times*n.levels
		tree, ok := read([]byte(n.text(times, brackets)))
		if !ok || syntax.Depth(tree) != api.MaxDepth {
			t.Errorf("P7.1: %q .. %q, %d times, is read as a tree %d deep, %t", n.ahead, n.behind, times, syntax.Depth(tree), ok)
		}
		expectNone(t, read, n.text(times, brackets+1))
	}
	for _, times := range []int{api.MaxDepth/n.levels + 1, api.MaxDepth, 2*api.MaxDepth + 1, 20000} {
		expectNone(t, read, n.text(times, 0))
		expectNone(t, read, strings.Repeat(n.ahead, times))
		if n.behind != "" {
			expectNone(t, read, n.ahead+"a"+strings.Repeat(n.behind, times))
		}
	}
}

func TestDeepestExpressions(t *testing.T) {
	for _, n := range exprNests() {
		expectDeepest(t, parseexpr.Expr, n)
	}
}

func TestDeepestTypes(t *testing.T) {
	for _, n := range typeNests() {
		expectDeepest(t, parseexpr.Type, n)
		expectDeepest(t, parseexpr.Expr, n)
	}
}

func TestDeepestSigs(t *testing.T) {
	for _, n := range []nest{{"(", ")", 3}, {"(a T, b ", ") c", 3}, {"() ", "", 1}} {
		brackets := api.MaxDepth - 1 - n.levels
		tree, ok := newReader(t, n.text(1, brackets)).Sig()
		if !ok || syntax.Depth(tree) != api.MaxDepth {
			t.Errorf("P7.2: %q .. %q is read as a tree %d deep, %t", n.ahead, n.behind, syntax.Depth(tree), ok)
		}
		expectNoPart(t, (*parseexpr.Reader).Sig, n.text(1, brackets+1))
	}
}

// What is read as a part is as deep by itself as may be, wherever it stands.
func TestDeepestParts(t *testing.T) {
	deepest := nest{"(", ")", 1}.text(api.MaxDepth-1, 0)
	for _, read := range []part{inHead, outside, (*parseexpr.Reader).Type} {
		r := newReader(t, strings.Repeat(deepest+";", 3)+"("+deepest+")")
		for range 3 {
			if n, ok := read(r); !ok || syntax.Depth(n) != api.MaxDepth || r.Next().Text != ";" {
				t.Errorf("P7.2: a tree of %d is read as %d deep, %t", api.MaxDepth, syntax.Depth(n), ok)
			}
		}
		if _, ok := read(r); ok {
			t.Error("P7.2: what is too deep is read")
		}
	}
}

func TestDeepestFunctionLiterals(t *testing.T) {
	for _, n := range []nest{{"func() { ", " }", 2}, {"func(a T) { x ; f(", ") }", 3}, {"[]T{func() U { ", " ; x } }", 3}, {"- func() { ", " } ()", 4}} {
		expectDeepest(t, withBlocks, n)
	}
	// A block counts as what its reader answers.
	for depth := api.MaxDepth - 3; depth < api.MaxDepth+3; depth++ {
		if ok := readsBlockOf(t, depth); ok != (depth < api.MaxDepth) {
			t.Errorf("P7.1: a block that is %d deep is read: %t", depth, ok)
		}
	}
	if readsBlockOf(t, 1<<20) {
		t.Error("P7.1: a block that is far too deep is read")
	}
}

// readsBlockOf tells whether a function literal is read whose block is so deep.
func readsBlockOf(t *testing.T, depth int) bool {
	t.Helper()
	block := api.Node{Kind: api.NBlock}
	for range depth - 1 {
		block = api.Node{Kind: api.NBlock, Kids: []api.Node{block}}
	}
	r := newReader(t, "func() {}")
	r.SetBlock(func(r *parseexpr.Reader) (api.Node, bool) {
		r.Next()
		r.Next()
		return block, true
	})
	n, ok := r.Expr(false)
	if ok && syntax.Depth(n) != depth+1 {
		t.Errorf("P7.2: a block that is %d deep is read as a literal that is %d deep", depth, syntax.Depth(n))
	}
	return ok
}

// A block's reader may read what it does not answer: that counts for itself.
func TestDepthOfWhatIsNotAnswered(t *testing.T) {
	inner := nest{"(", ")", 1}.text(api.MaxDepth-1, 0)
	r := newReader(t, nest{"(", ")", 1}.text(150, 0)[:150]+"func() { "+inner+" }"+strings.Repeat(")", 150))
	r.SetBlock(func(r *parseexpr.Reader) (api.Node, bool) {
		block, ok := readBlock(r)
		if !ok || syntax.Depth(block) != api.MaxDepth+1 {
			t.Errorf("P7.2: the block's reader reads a block %d deep, %t", syntax.Depth(block), ok)
		}
		return api.Node{Kind: api.NBlock}, ok
	})
	if n, ok := r.Expr(false); !ok || syntax.Depth(n) != 153 {
		t.Errorf("P7.2: the literal is read as a tree %d deep, %t", syntax.Depth(n), ok)
	}
}

// What a block's reader reads in vain leaves no trace in how deep the rest may be.
func TestDepthBehindWhatIsWrong(t *testing.T) {
	const levels = 150
	r := newReader(t, "f(func() { "+strings.Repeat("(", levels)+"+ ; }, "+nest{"(", ")", 1}.text(levels, 0)+")")
	r.SetBlock(func(r *parseexpr.Reader) (api.Node, bool) {
		r.Next()
		if _, ok := r.Expr(false); ok {
			t.Error("P7.2: what is wrong is read")
		}
		for r.Next().Text != "}" {
		}
		return api.Node{Kind: api.NBlock}, true
	})
	if n, ok := r.Expr(false); !ok || syntax.Depth(n) != levels+2 {
		t.Errorf("P7.2: the call is read as a tree %d deep, %t", syntax.Depth(n), ok)
	}
}

// Sources that nest without end are left, and calls are not nested as deep as they are.
func TestSourcesWithoutEnd(t *testing.T) {
	const many = 2000000
	for _, ahead := range []string{"(", "[", "- ", "func(){"} {
		expectNone(t, withBlocks, strings.Repeat(ahead, many/len(ahead)))
	}
	for _, ahead := range []string{"[]", "T[", "struct{a ", "interface{m(", "func(a[", "func() "} {
		expectNone(t, parseexpr.Type, strings.Repeat(ahead, many/len(ahead)))
	}
	brackets := nest{"(", ")", 1}.text(api.MaxDepth-10, 0)
	literals := nest{brackets[:api.MaxDepth-10] + "func() { ", " }" + brackets[api.MaxDepth-9:], 0}
	for _, times := range []int{2, 50, api.MaxDepth - 1, api.MaxDepth, many / 1000} {
		expectNone(t, withBlocks, literals.text(times, 0))
		expectNone(t, withBlocks, strings.Repeat(literals.ahead, times))
	}
	expectNone(t, parseexpr.Expr, strings.Repeat("a.", many/2)+"a")
	expectNone(t, parseexpr.Expr, strings.Repeat("a+", many/2)+"a")
}

// What is wide is no deeper for that.
func TestWide(t *testing.T) {
	const many = 100000
	for around, kids := range map[string]int{"f($)": many + 1, "f[$]": many + 1, "T{$}": many + 1, "[]T{$}": many + 1} {
		n, ok := parseexpr.Expr([]byte(strings.ReplaceAll(around, "$", strings.Repeat("a,", many))))
		if !ok || len(n.Kids) != kids {
			t.Errorf("P7.1: %s has %d kids, %t", around, len(n.Kids), ok)
		}
	}
	for around, kids := range map[string]int{"func($)": many, "struct{$}": many, "interface{$}": many} {
		piece := map[string]string{"func($)": "a [b]c,", "struct{$}": "a b;", "interface{$}": "m(a[b]);"}[around]
		n, ok := parseexpr.Type([]byte(strings.ReplaceAll(around, "$", strings.Repeat(piece, many))))
		if ok && n.Kind == api.NFuncType {
			n = n.Kids[0]
		}
		if !ok || len(n.Kids) != kids {
			t.Errorf("P7.1: %s has %d kids, %t", around, len(n.Kids), ok)
		}
	}
	n, ok := withBlocks([]byte("f(" + strings.Repeat("func() { a },", many/10) + ")"))
	if !ok || len(n.Kids) != many/10+1 {
		t.Errorf("P7.2: many function literals: %d, %t", len(n.Kids), ok)
	}
	n, ok = parseexpr.Type([]byte("interface{" + strings.Repeat("~a|", many) + "b}"))
	if !ok || len(n.Kids) != 1 || len(n.Kids[0].Kids) != many+1 {
		t.Errorf("P7.1: a wide union: %t", ok)
	}
}
