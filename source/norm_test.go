package source_test

import (
	"bytes"
	"fmt"
	"math/rand"
	"slices"
	"strings"
	"testing"

	"sterling/api"
	"sterling/source"
)

// ascending is names in the order of their bytes: fronts of one another, signs around the letters, bytes above 127.
func ascending() []string {
	return []string{
		"", "\x00", "\x00a", " ", "-", ".", "..", "/", "0", "10", "9", "A", "Z", "_", "a", "a\x00", "a-b", "a.b",
		"a/", "a/b", "a0", "aA", "aa", "aaa", "ab", "a\x7f", "a\x80", "a\xff", "b", "ba", "z", "~", "\x7f", "\x80",
		"\xc3\xa4", "\xc3\xa4a", "\xc3\xa5", "\xe2\x82\xac", "\xff", "\xff\x00", "\xff\xff",
	}
}

func TestAscendingIsByBytes(t *testing.T) {
	names := ascending()
	for i := 1; i < len(names); i++ {
		if bytes.Compare([]byte(names[i-1]), []byte(names[i])) >= 0 {
			t.Errorf("%q is not ahead of %q", names[i-1], names[i])
		}
	}
}

// grown is a tree in order: a package of each name, some without files, the others with files of all names up to some
// place.
func grown(names []string) api.Tree {
	var tree api.Tree
	for i, path := range names {
		p := api.Pkg{Path: path}
		for _, name := range names[:i%7*len(names)/6] {
			p.Files = append(p.Files, api.File{Name: name, Body: []byte(path + ":" + name)})
		}
		tree.Pkgs = append(tree.Pkgs, p)
	}
	return tree
}

func copied(t api.Tree) api.Tree {
	pkgs := slices.Clone(t.Pkgs)
	for i, p := range pkgs {
		pkgs[i].Files = slices.Clone(p.Files)
		for j, f := range p.Files {
			pkgs[i].Files[j].Body = bytes.Clone(f.Body)
		}
	}
	return api.Tree{Pkgs: pkgs}
}

// shuffled is t with its packages and their files in the order that random says.
func shuffled(t api.Tree, random *rand.Rand) api.Tree {
	mixed := copied(t)
	shuffle(mixed.Pkgs, random)
	for _, p := range mixed.Pkgs {
		shuffle(p.Files, random)
	}
	return mixed
}

func shuffle[T any](list []T, random *rand.Rand) {
	random.Shuffle(len(list), func(i, j int) { list[i], list[j] = list[j], list[i] })
}

func text(v any) string { return fmt.Sprintf("%q", v) }

func expectNorm(t *testing.T, tree, want api.Tree) {
	t.Helper()
	before := text(tree)
	got, ok := source.Norm(tree)
	if !ok || text(got) != text(want) {
		t.Errorf("P4.1: Norm(%.200q) is %.200q, %t, not %.200q", before, text(got), ok, text(want))
	}
	if text(tree) != before {
		t.Errorf("P4.3: Norm changed %.200q to %.200q", before, text(tree))
	}
}

func expectNoNorm(t *testing.T, tree api.Tree) {
	t.Helper()
	before := text(tree)
	got, ok := source.Norm(tree)
	if ok || len(got.Pkgs) != 0 {
		t.Errorf("P4.1: Norm(%.200q) is %.200q, %t", before, text(got), ok)
	}
	if text(tree) != before {
		t.Errorf("P4.3: Norm changed %.200q to %.200q", before, text(tree))
	}
}

func TestNormOfAnyOrder(t *testing.T) {
	random := rand.New(rand.NewSource(1))
	want := grown(ascending())
	expectNorm(t, want, want)
	for range 20 {
		expectNorm(t, shuffled(want, random), want)
	}
	backward := copied(want)
	slices.Reverse(backward.Pkgs)
	for _, p := range backward.Pkgs {
		slices.Reverse(p.Files)
	}
	expectNorm(t, backward, want)
}

func TestNormOfAllOrdersOfFew(t *testing.T) {
	body := []byte("x")
	file := func(name string) api.File { return api.File{Name: name, Body: body} }
	orders := [][]int{{0, 1, 2}, {0, 2, 1}, {1, 0, 2}, {1, 2, 0}, {2, 0, 1}, {2, 1, 0}}
	files := []api.File{file("a"), file("ab"), file("b")}
	paths := []string{"a", "a/b", "b"}
	want := api.Tree{Pkgs: []api.Pkg{{Path: "a", Files: files}, {Path: "a/b", Files: files}, {Path: "b", Files: files}}}
	for _, pkgOrder := range orders {
		for _, fileOrder := range orders {
			var tree api.Tree
			for _, i := range pkgOrder {
				p := api.Pkg{Path: paths[i]}
				for _, j := range fileOrder {
					p.Files = append(p.Files, files[j])
				}
				tree.Pkgs = append(tree.Pkgs, p)
			}
			expectNorm(t, tree, want)
		}
	}
}

func TestNormOfLittle(t *testing.T) {
	for _, tree := range []api.Tree{
		{},
		{Pkgs: []api.Pkg{}},
		{Pkgs: []api.Pkg{{}}},
		{Pkgs: []api.Pkg{{Path: "a", Files: []api.File{}}}},
		{Pkgs: []api.Pkg{{Path: "a", Files: []api.File{{}}}}},
		{Pkgs: []api.Pkg{{Path: "", Files: []api.File{{Name: "", Body: []byte{}}}}, {Path: "a"}}},
	} {
		expectNorm(t, tree, tree)
	}
}

func TestNormTakesWhatMayNotBeAPath(t *testing.T) {
	expectNorm(t,
		api.Tree{Pkgs: []api.Pkg{{Path: "a b"}, {Path: "/"}, {Path: ""}, {Path: strings.Repeat("a", 101)}}},
		api.Tree{Pkgs: []api.Pkg{{Path: ""}, {Path: "/"}, {Path: "a b"}, {Path: strings.Repeat("a", 101)}}})
}

func TestNormOfOnePathTwice(t *testing.T) {
	for _, name := range ascending() {
		tree := grown(ascending())
		for at := range len(tree.Pkgs) + 1 {
			twice := api.Pkg{Path: name, Files: []api.File{{Name: "other"}}}
			expectNoNorm(t, api.Tree{Pkgs: slices.Insert(slices.Clone(tree.Pkgs), at, twice)})
		}
	}
	expectNoNorm(t, api.Tree{Pkgs: []api.Pkg{{}, {}}})
	expectNoNorm(t, api.Tree{Pkgs: []api.Pkg{{Path: "a"}, {Path: "b"}, {Path: "a"}}})
}

func TestNormOfOneNameTwice(t *testing.T) {
	for _, name := range ascending() {
		var files []api.File
		for _, other := range ascending() {
			files = append(files, api.File{Name: other})
		}
		for at := range len(files) + 1 {
			twice := slices.Insert(slices.Clone(files), at, api.File{Name: name, Body: []byte("other")})
			for place := range 3 {
				pkgs := []api.Pkg{{Path: "a"}, {Path: "b", Files: []api.File{{Name: "x"}}}, {Path: "c"}}
				pkgs[place].Files = twice
				expectNoNorm(t, api.Tree{Pkgs: pkgs})
			}
		}
	}
	expectNoNorm(t, api.Tree{Pkgs: []api.Pkg{{Files: []api.File{{}, {}}}}})
}

func TestNormOfOneNameInTwoPackages(t *testing.T) {
	files := func() []api.File { return []api.File{{Name: "a", Body: []byte("1")}, {Name: "b", Body: []byte("2")}} }
	tree := api.Tree{Pkgs: []api.Pkg{{Path: "a", Files: files()}, {Path: "b", Files: files()}}}
	expectNorm(t, tree, tree)
	// A file may also be called as a package is, its own or another one.
	tree = api.Tree{Pkgs: []api.Pkg{{Path: "a", Files: files()}, {Path: "b"}}}
	expectNorm(t, tree, tree)
}

func TestNormOfBodiesAlike(t *testing.T) {
	body := []byte("package a\n")
	tree := api.Tree{Pkgs: []api.Pkg{{Path: "a", Files: []api.File{{Name: "a", Body: body}, {Name: "b", Body: body}}}}}
	expectNorm(t, tree, tree)
}

func TestNormOfMany(t *testing.T) {
	var want api.Tree
	for i := range 3000 {
		name := fmt.Sprintf("%05d", i)
		want.Pkgs = append(want.Pkgs, api.Pkg{Path: name, Files: []api.File{{Name: name}}})
	}
	expectNorm(t, shuffled(want, rand.New(rand.NewSource(2))), want)
	twice := shuffled(want, rand.New(rand.NewSource(3)))
	twice.Pkgs = append(twice.Pkgs, api.Pkg{Path: "01234"})
	expectNoNorm(t, twice)
}

// roomy is a list with the same elements and spare room behind them, all of it mark.
func roomy[T any](list []T, mark T) []T {
	room := make([]T, len(list)+4)
	for i := copy(room, list); i < len(room); i++ {
		room[i] = mark
	}
	return room[:len(list)]
}

func spare[T any](list []T) []T { return list[len(list):cap(list)] }

func scribbleTree(t api.Tree) {
	for _, p := range t.Pkgs {
		for _, f := range p.Files {
			fill(f.Body, '!')
		}
		fill(p.Files, api.File{Name: "!", Body: []byte("!")})
	}
	fill(t.Pkgs, api.Pkg{Path: "!", Files: []api.File{{Name: "!"}}})
}

// fill writes v all over list and its spare room.
func fill[T any](list []T, v T) {
	room := list[:cap(list)]
	for i := range room {
		room[i] = v
	}
}

// roomyTree is a copy of t whose lists all have spare room.
func roomyTree(t api.Tree) api.Tree {
	t = copied(t)
	for i, p := range t.Pkgs {
		for j, f := range p.Files {
			p.Files[j].Body = roomy(f.Body, '?')
		}
		t.Pkgs[i].Files = roomy(p.Files, api.File{Name: "?"})
	}
	t.Pkgs = roomy(t.Pkgs, api.Pkg{Path: "?"})
	return t
}

// spareText is what stands in the spare room of t's lists.
func spareText(t api.Tree) string {
	told := text(spare(t.Pkgs))
	for _, p := range t.Pkgs {
		told += text(spare(p.Files))
		for _, f := range p.Files {
			told += text(spare(f.Body))
		}
	}
	return told
}

func TestNormIsNewMemory(t *testing.T) {
	want := grown(ascending())
	for _, tree := range []api.Tree{want, shuffled(want, rand.New(rand.NewSource(4)))} {
		tree = roomyTree(tree)
		before, beforeSpare := text(tree), spareText(tree)
		first, _ := source.Norm(tree)
		second, _ := source.Norm(tree)
		scribbleTree(first)
		if text(tree) != before || spareText(tree) != beforeSpare {
			t.Error("P4.3: what Norm answers shares memory with its argument")
		}
		if text(second) != text(want) {
			t.Error("P4.3: what Norm answers shares memory with what it answered before")
		}
		third, _ := source.Norm(tree)
		scribbleTree(tree)
		if text(third) != text(want) {
			t.Error("P4.3: what Norm answers hangs on its argument later on")
		}
	}
}

func TestNormSharesNoListInOneAnswer(t *testing.T) {
	// All bodies and all lists of files come out of one memory, one behind the other.
	memory := []byte("abcdef")
	files := []api.File{{Name: "a", Body: memory[0:2]}, {Name: "b", Body: memory[2:4]}, {Name: "c", Body: memory[0:2]}}
	tree := api.Tree{Pkgs: []api.Pkg{{Path: "a", Files: files[0:1]}, {Path: "b", Files: files[1:3]}, {Path: "c", Files: files[0:3]}}}
	want := text(tree)
	for i, p := range tree.Pkgs {
		for j := range p.Files {
			got, _ := source.Norm(tree)
			fill(got.Pkgs[i].Files[j].Body, '!')
			got.Pkgs[i].Files[j].Body = tree.Pkgs[i].Files[j].Body
			if text(got) != want {
				t.Errorf("P4.3: the body %d of package %d is shared in one answer", j, i)
			}
		}
		got, _ := source.Norm(tree)
		fill(got.Pkgs[i].Files, api.File{Name: "!"})
		got.Pkgs[i].Files = tree.Pkgs[i].Files
		if text(got) != want {
			t.Errorf("P4.3: the files of package %d are shared in one answer", i)
		}
	}
}

func TestNoNormLeavesItsArgument(t *testing.T) {
	tree := shuffled(grown(ascending()), rand.New(rand.NewSource(5)))
	tree.Pkgs = append(tree.Pkgs, tree.Pkgs[3])
	tree = roomyTree(tree)
	before, beforeSpare := text(tree), spareText(tree)
	got, ok := source.Norm(tree)
	if ok || len(got.Pkgs) != 0 {
		t.Errorf("P4.1: %s, %t", text(got), ok)
	}
	scribbleTree(got)
	if text(tree) != before || spareText(tree) != beforeSpare {
		t.Error("P4.3: Norm changed what it refused")
	}
}
