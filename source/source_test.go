package source_test

import (
	"bytes"
	"math"
	"math/rand"
	"slices"
	"strings"
	"testing"

	"sterling/api"
	"sterling/source"
)

func expectPath(t *testing.T, p string, want bool) {
	t.Helper()
	if source.Path(p) != want {
		t.Errorf("P4.1: Path(%q) is not %t", p, want)
	}
}

const (
	pathSigns   = "_/.-"
	pathLetters = "abcdefghijklmnopqrstuvwxyzABCDEFGHIJKLMNOPQRSTUVWXYZ0123456789"
)

func TestPathOfEachByte(t *testing.T) {
	for b := range 256 {
		s := string([]byte{byte(b)})
		allowed := strings.Contains(pathLetters+pathSigns, s)
		expectPath(t, s, allowed && s != "/")
		expectPath(t, s+"a", allowed && s != "/")
		expectPath(t, "a"+s, allowed && s != "/")
		expectPath(t, "a"+s+"a", allowed)
		expectPath(t, strings.Repeat("a", 50)+s+strings.Repeat("a", 49), allowed)
	}
}

func TestPathOfEachLength(t *testing.T) {
	for n := range 300 {
		expectPath(t, strings.Repeat("a", n), n >= 1 && n <= 100)
		expectPath(t, strings.Repeat(".", n), n >= 1 && n <= 100)
		expectPath(t, strings.Repeat("\xff", n), false)
	}
	expectPath(t, strings.Repeat("a/", 49)+"ab", true)
	expectPath(t, strings.Repeat("a/", 50), false)
	expectPath(t, strings.Repeat("a/", 50)+"a", false)
	expectPath(t, strings.Repeat("a", 1<<20), false)
}

func TestPathOfSome(t *testing.T) {
	for _, p := range []string{"a", "main", "a/b", "a/b/c", "a//b", ".", "..", "../a", "a/..", "-", "_", "a.b", "A-Z_0.9/x", "0"} {
		expectPath(t, p, true)
	}
	for _, p := range []string{
		"", "/", "//", "/a", "a/", "/a/", "a/b/", "a b", " a", "a ", "a\n", "a\x00", "a\\b", "a~b", "a@b", "a:b", "a,b",
		"a+b", "ä", "a/ä", "\u212a", "\x80", "a\xff", "[a]", "`a`", "{a}",
	} {
		expectPath(t, p, false)
	}
}

// modelPlace counts as the words of the promise do.
func modelPlace(body []byte, at int) (int, int) {
	ahead := string(body[:max(0, min(at, len(body)))])
	lines := strings.Split(ahead, "\n")
	return len(lines), 1 + len(lines[len(lines)-1])
}

func expectPlace(t *testing.T, body string, at, line, column int) {
	t.Helper()
	memory := roomy([]byte(body), '?')
	gotLine, gotColumn := source.Place(memory, at)
	if gotLine != line || gotColumn != column {
		t.Errorf("P4.2: Place(%q, %d) is %d, %d, not %d, %d", body, at, gotLine, gotColumn, line, column)
	}
	if string(memory) != body || string(spare(memory)) != "????" {
		t.Errorf("P4.3: Place(%q, %d) changed its argument", body, at)
	}
}

func TestPlaceOfNamedEdges(t *testing.T) {
	for _, c := range []struct {
		body             string
		at, line, column int
	}{
		{"", 0, 1, 1}, {"", -1, 1, 1}, {"", 1, 1, 1}, {"", math.MinInt, 1, 1}, {"", math.MaxInt, 1, 1},
		{"\n", 0, 1, 1}, {"\n", 1, 2, 1}, {"\n", 2, 2, 1}, {"\n", -1, 1, 1},
		{"\n\n", 1, 2, 1}, {"\n\n", 2, 3, 1},
		{"ab", 0, 1, 1}, {"ab", 1, 1, 2}, {"ab", 2, 1, 3}, {"ab", 3, 1, 3}, {"ab", math.MaxInt, 1, 3},
		{"ab\ncd", 1, 1, 2}, {"ab\ncd", 2, 1, 3}, {"ab\ncd", 3, 2, 1}, {"ab\ncd", 4, 2, 2}, {"ab\ncd", 5, 2, 3},
		{"ab\ncd", 6, 2, 3}, {"ab\ncd", -7, 1, 1}, {"ab\ncd", math.MinInt, 1, 1}, {"ab\ncd", math.MaxInt, 2, 3},
		{"ab\r\ncd", 3, 1, 4}, {"ab\r\ncd", 4, 2, 1}, {"a\rb", 2, 1, 3}, {"a\fb\vc\x00d", 6, 1, 7},
		{"\tä\u2028x", 3, 1, 4}, {"\tä\u2028x", 6, 1, 7}, {"\u0085\n\xff\xfe", 4, 2, 2}, {"\x8a\x0a", 1, 1, 2},
	} {
		expectPlace(t, c.body, c.at, c.line, c.column)
	}
	if line, column := source.Place(nil, 7); line != 1 || column != 1 {
		t.Errorf("P4.2: Place(nil, 7) is %d, %d", line, column)
	}
}

func TestPlaceOfAllSmallBodies(t *testing.T) {
	for n := range 9 {
		for shape := range 1 << n {
			body := make([]byte, n)
			for i := range body {
				body[i] = "x\n"[shape>>i&1]
			}
			for at := -2; at <= n+2; at++ {
				line, column := modelPlace(body, at)
				expectPlace(t, string(body), at, line, column)
			}
		}
	}
}

func TestPlaceOfEachByte(t *testing.T) {
	for b := range 256 {
		body := []byte{'a', byte(b), 'c'}
		for at := range 4 {
			line, column := modelPlace(body, at)
			expectPlace(t, string(body), at, line, column)
		}
	}
}

func TestPlaceInALongBody(t *testing.T) {
	body := bytes.Repeat([]byte("abc\n\nd\n"), 10000)
	for _, at := range []int{0, 1, 3, 4, 5, 6, 7, 34999, 35000, 69998, 69999, 70000, 70001} {
		line, column := modelPlace(body, at)
		if gotLine, gotColumn := source.Place(body, at); gotLine != line || gotColumn != column {
			t.Errorf("P4.2: at %d: %d, %d, not %d, %d", at, gotLine, gotColumn, line, column)
		}
	}
}

// sortedDiags is all diags of some packages, files and places, in order.
func sortedDiags() []api.Diag {
	names := []string{"", "\x00", "A", "a", "a\x00", "a.go", "a/b", "aa", "b", "\x7f", "\x80", "\xff"}
	places := []int{math.MinInt, math.MinInt + 1, -10, -9, -1, 0, 1, 2, 9, 10, 11, 100, 1 << 40, math.MaxInt - 1, math.MaxInt}
	var ds []api.Diag
	for _, pkg := range names {
		for _, file := range names {
			for _, at := range places {
				ds = append(ds, api.Diag{Pkg: pkg, File: file, At: at})
			}
		}
	}
	return ds
}

func expectDiags(t *testing.T, ds, want []api.Diag) {
	t.Helper()
	before := slices.Clone(ds)
	if got := source.Diags(ds); !slices.Equal(got, want) {
		t.Errorf("P4.2: Diags(%.200q) is %.200q, not %.200q", text(before), text(got), text(want))
	}
	if !slices.Equal(ds, before) {
		t.Errorf("P4.3: Diags changed %.200q to %.200q", text(before), text(ds))
	}
}

func TestDiagsOfAnyOrder(t *testing.T) {
	random := rand.New(rand.NewSource(6))
	want := sortedDiags()
	expectDiags(t, want, want)
	for range 20 {
		mixed := slices.Clone(want)
		shuffle(mixed, random)
		expectDiags(t, mixed, want)
	}
	backward := slices.Clone(want)
	slices.Reverse(backward)
	expectDiags(t, backward, want)
}

func TestDiagsOfTheSame(t *testing.T) {
	random := rand.New(rand.NewSource(7))
	want := sortedDiags()
	var often []api.Diag
	for _, d := range want {
		for range 1 + random.Intn(4) {
			often = append(often, d)
		}
	}
	expectDiags(t, often, want)
	shuffle(often, random)
	expectDiags(t, often, want)
}

func TestDiagsOfFew(t *testing.T) {
	d := func(pkg, file string, at int) api.Diag { return api.Diag{Pkg: pkg, File: file, At: at} }
	for _, c := range []struct{ ds, want []api.Diag }{
		{nil, nil},
		{[]api.Diag{}, nil},
		{[]api.Diag{{}}, []api.Diag{{}}},
		{[]api.Diag{{}, {}}, []api.Diag{{}}},
		{[]api.Diag{{}, {}, {}}, []api.Diag{{}}},
		{[]api.Diag{d("a", "b", 1), d("a", "b", 1), d("a", "b", 1)}, []api.Diag{d("a", "b", 1)}},
		// Alike but in one part.
		{[]api.Diag{d("b", "x", 1), d("a", "x", 1)}, []api.Diag{d("a", "x", 1), d("b", "x", 1)}},
		{[]api.Diag{d("a", "y", 1), d("a", "x", 1)}, []api.Diag{d("a", "x", 1), d("a", "y", 1)}},
		{[]api.Diag{d("a", "x", 10), d("a", "x", 9)}, []api.Diag{d("a", "x", 9), d("a", "x", 10)}},
		// What is ahead in one part and behind in the other two.
		{[]api.Diag{d("b", "a", 1), d("a", "b", 2)}, []api.Diag{d("a", "b", 2), d("b", "a", 1)}},
		{[]api.Diag{d("a", "b", 1), d("a", "a", 2)}, []api.Diag{d("a", "a", 2), d("a", "b", 1)}},
		// The parts are not one text.
		{[]api.Diag{d("ab", "c", 0), d("a", "bc", 0)}, []api.Diag{d("a", "bc", 0), d("ab", "c", 0)}},
		{[]api.Diag{d("a", "1", 11), d("a", "11", 1)}, []api.Diag{d("a", "1", 11), d("a", "11", 1)}},
		{[]api.Diag{d("a", "x", math.MaxInt), d("a", "x", math.MinInt)}, []api.Diag{d("a", "x", math.MinInt), d("a", "x", math.MaxInt)}},
		{[]api.Diag{d("a", "x", 1), d("b", "x", 1), d("a", "x", 1)}, []api.Diag{d("a", "x", 1), d("b", "x", 1)}},
	} {
		expectDiags(t, c.ds, c.want)
	}
}

func TestDiagsIsNewMemory(t *testing.T) {
	mark := api.Diag{Pkg: "?"}
	for _, ds := range [][]api.Diag{
		nil,
		{{Pkg: "a"}},
		{{Pkg: "a"}, {Pkg: "b"}},
		{{Pkg: "b"}, {Pkg: "a"}},
		{{Pkg: "b"}, {Pkg: "a"}, {Pkg: "b"}, {Pkg: "a"}, {Pkg: "a"}},
	} {
		argument := roomy(ds, mark)
		first, second := source.Diags(argument), source.Diags(argument)
		want := slices.Clone(second)
		fill(first, api.Diag{Pkg: "!"})
		if !slices.Equal(argument, ds) || slices.ContainsFunc(spare(argument), func(d api.Diag) bool { return d != mark }) {
			t.Errorf("P4.3: what Diags(%v) answers shares memory with its argument", ds)
		}
		if !slices.Equal(second, want) {
			t.Errorf("P4.3: what Diags(%v) answers shares memory with what it answered before", ds)
		}
		third := source.Diags(argument)
		fill(argument, api.Diag{Pkg: "!"})
		if !slices.Equal(third, want) {
			t.Errorf("P4.3: what Diags(%v) answers hangs on its argument later on", ds)
		}
	}
}
