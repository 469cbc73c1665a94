package parsefile_test

import (
	"runtime/debug"
	"strings"
	"testing"

	"sterling/api"
	"sterling/parsefile"
	"sterling/syntax"
)

// holes is declarations with a place for an expression or a type, and how many levels stand above it, that of the file
// among them.
func holes() map[string]int {
	return map[string]int{
		"var x = $": 2, "var x $": 2, "var x T = $": 2, "const c = $": 2, "const c $ = 1": 2, "var x [$]T": 3, "var x = func() { $ }": 5,
		"type T $": 2, "type T [2]$": 3, "type T [n]$": 3, "type T [$]U": 3, "type T[P C] $": 2, "type T[P $] U": 4,
		"type T[P C, Q $,] U": 4,
		"type T[P ~$] U":      7, "type T[P A | $] U": 6, "type T[P A | ~$ | B] U": 7, "type T struct { a $ }": 4,
		"type T interface { m($) }": 7,
		"type T interface { ~$ }":   5, "func f(a $) { }": 5, "func f(a A, b $) B { }": 5, "func f() $ { }": 3, "func f[P $]() { }": 4,
		"func f[P ~$]() { }": 7, "func f[P A | $]() { }": 6, "func f() { $ }": 4, "func f() { a; { $ } }": 5, "func f() { return $ }": 4,
		"func (r T) m() { $ }": 4, "func (r *T[A]) m(a $) { }": 5, "func (r T) m() $ { }": 3, "func f() { var x = $ }": 4,
		"func f() { x := func() { $ } }": 7, "func f() { type T [$]U }": 5, "var x = f(func() { return func() { $ } })": 9,
	}
}

// brackets is an expression and a type that is some levels deep.
func brackets(depth int) string {
	return strings.Repeat("(", depth-1) + "a" + strings.Repeat(")", depth-1)
}

func inHole(form string, depth int) string {
	return "package p; " + strings.ReplaceAll(form, "$", brackets(depth))
}

// expectDepth asks that a file is read as a tree that is just so deep.
func expectDepth(t *testing.T, source string, want int) {
	t.Helper()
	n, at, ok := parsefile.File([]byte(source))
	if !ok || syntax.Depth(n) != want {
		t.Errorf("P9.1: %.200q is read as a tree %d deep, %d, %t, not %d", source, syntax.Depth(n), at, ok, want)
		return
	}
	expectBack(t, n)
}

func TestDeepest(t *testing.T) {
	for form, above := range holes() {
		// What is shallow in the hole may be less deep than what stands beside it.
		for _, depth := range []int{50, 100, api.MaxDepth - above - 1, api.MaxDepth - above} {
			expectDepth(t, inHole(form, depth), above+depth)
		}
		for _, more := range []int{1, 2, 3, 10, above - 1, above, above + 1, api.MaxDepth, 20000} {
			expectNone(t, inHole(form, api.MaxDepth-above+more))
		}
	}
}

// A file that is as deep as may be in one place may be so in all others, and no deeper in any.
func TestDeepestSideBySide(t *testing.T) {
	var deepest []string
	for form, above := range holes() {
		deepest = append(deepest, strings.ReplaceAll(form, "$", brackets(api.MaxDepth-above)))
	}
	source := "package p; import \"a\"; " + strings.Join(deepest, "\n") + "\n"
	expectDepth(t, source, api.MaxDepth)
	for form, above := range holes() {
		tooDeep := strings.ReplaceAll(form, "$", brackets(api.MaxDepth-above+1))
		expectNone(t, source+tooDeep, strings.Replace(source, deepest[0], tooDeep, 1), strings.Replace(source, deepest[7], tooDeep, 1))
	}
}

// A block is two levels below its file, though alone it may be as deep as a file.
func TestDeepestBlocks(t *testing.T) {
	blocks := func(depth int) string { return strings.Repeat("{", depth) + strings.Repeat("}", depth) }
	for _, depth := range []int{4, 100, api.MaxDepth - 3, api.MaxDepth - 2} {
		expectDepth(t, "package p; func f() "+blocks(depth), depth+2)
		expectDepth(t, "package p; func (r T) m() "+blocks(depth), max(depth, 2)+2)
	}
	for _, depth := range []int{api.MaxDepth - 1, api.MaxDepth, api.MaxDepth + 1, 2 * api.MaxDepth, 100000} {
		expectNone(t, "package p; func f() "+blocks(depth), "package p; func (r T) m() "+blocks(depth),
			"package p; var x = func() "+blocks(depth))
	}
	expectDepth(t, "package p; var x = func() "+blocks(api.MaxDepth-3), api.MaxDepth)
	expectNone(t, "package p; var x = func() "+blocks(api.MaxDepth-2))
}

// Shallow files are as deep as their deepest part.
func TestDepthOfShallowFiles(t *testing.T) {
	for source, want := range map[string]int{"package p": 1, "package p; import \"a\"": 2, "package p; var x T": 3,
		"package p; func f() { }":       4,
		"package p; func (r T) m() { }": 4, "package p; func (r *T[A]) m() { }": 6, "package p; type T[P ~C] U": 8,
		"package p; type T U": 3} {
		expectDepth(t, source, want)
	}
}

// Sources that nest without end are left, and calls are not nested as deep as they are: there is little room for that.
func TestSourcesWithoutEnd(t *testing.T) {
	const many = 40000
	defer debug.SetMaxStack(debug.SetMaxStack(1 << 20))
	for _, ahead := range []string{"var x = ", "var x ", "const c = ", "type T ", "type T[P C] ", "type T[P ", "type T[P ~",
		"type T[P A | ", "func f(a ", "func f() ",
		"func f[P ", "func f() { ", "func (r T) m() { ", "func (r T", "func ", "import ", "var "} {
		for _, piece := range []string{"(", "[", "[]", "*", "-", "a.", "a[", "f(", "{", "func(", "func(a ", "func() ", "struct { a ",
			"interface { m(", "map[", "if a {", "~", "a | ",
			"a, ", "func() {", "[2]", "T[", "a ", "a + ", ";", "~ "} {
			expectNone(t, "package p; "+ahead+strings.Repeat(piece, many/len(piece)))
		}
	}
	expectNone(t, strings.Repeat("package ", many), strings.Repeat("package p ", many), strings.Repeat("package p; ", many),
		strings.Repeat(";", many),
		"package p"+strings.Repeat(";", many), "package p; "+strings.Repeat("import ", many), "package p; "+strings.Repeat("func ", many))
}

// The same of function literals in expressions that are deep by themselves.
func TestDeepExpressionsWithoutEnd(t *testing.T) {
	defer debug.SetMaxStack(debug.SetMaxStack(128 << 20))
	open := strings.Repeat("(", api.MaxDepth-10)
	closing := strings.ReplaceAll(open, "(", ")")
	for _, times := range []int{2, 50, api.MaxDepth, 2 * api.MaxDepth} {
		nested := strings.Repeat(open+"func() { ", times)
		expectNone(t, "package p; var x = "+nested, "package p; var x = "+nested+"a"+strings.Repeat("}"+closing, times),
			"package p; func f() { "+nested,
			"package p; type T ["+nested)
	}
}

// What is wide is no deeper for that.
func TestWide(t *testing.T) {
	const many = 50000
	for piece, kids := range map[string]int{"import \"a\"\n": 1, "var x T;": 1, "const c = 1\n": 1, "type T U;": 1,
		"type T[P ~C] U; type A [n]T\n": 2, "func f(a T) { b(a) }\n": 1,
		"func (r *T[A]) m() { };": 1, "var x = func() { y };": 1} {
		n, _, ok := parsefile.File([]byte("package p\n" + strings.Repeat(piece, many)))
		if !ok || len(n.Kids) != kids*many {
			t.Errorf("P9.1: a file of many %q has %d declarations, %t", piece, len(n.Kids), ok)
		}
	}
	for form, piece := range map[string]string{"type T[$] U": "P C, ", "type T[P $C] U": "~A | ", "func f[$]() { }": "P *C, ",
		"func f[P $A]() { }": "B | ", "func f($) { }": "a T, ",
		"func (r T[$]) m() { }": "A, ", "func f() { $ }": "a;", "type T struct { $ }": "a U; ", "type T interface { $ }": "m(); ",
		"var x = f($)": "a, ", "var x = func() { $ }": "a;"} {
		n, _, ok := parsefile.File([]byte("package p; " + strings.ReplaceAll(form, "$", strings.Repeat(piece, many))))
		if !ok || len(n.Kids) != 1 || syntax.Count(n) < many {
			t.Errorf("P9.1: %q of many %q is read as %d nodes, %t", form, piece, syntax.Count(n), ok)
		}
	}
}
