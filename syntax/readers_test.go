package syntax_test

import (
	"math/rand"
	"strings"
	"testing"

	"sterling/api"
	"sterling/parsefile"
	"sterling/parsestmt"
	"sterling/syntax"
)

// The model by which Print is tested reads what the packages that read statements and files do.

func readBlock(source string) (api.Node, bool) { return parsestmt.Block([]byte(source)) }

func readFile(source string) (api.Node, bool) {
	n, _, ok := parsefile.File([]byte(source))
	return n, ok
}

// expectSameReading asks that a source is read by a package and by the model or by none; it tells whether it is read.
func expectSameReading(t *testing.T, read, model reader, source string) bool {
	t.Helper()
	want, wanted := model(source)
	n, ok := read(source)
	if ok != wanted || ok && !syntax.Eq(n, want) {
		t.Errorf("%q is read as %s, %t, by the model as %s, %t", source, whole(n), ok, whole(want), wanted)
	}
	return ok
}

// expectSameReadings asks the same of texts that are made, and of each with two words changed about.
func expectSameReadings(t *testing.T, read, model reader, random *rand.Rand, text func() string) {
	t.Helper()
	good, all := 0, 0
	expect := func(source string) {
		all++
		if expectSameReading(t, read, model, source) {
			good++
			expectText(t, read, source)
		}
	}
	for range 20000 {
		source := text()
		expect(source)
		words := strings.Split(source, " ")
		i, j := random.Intn(len(words)), random.Intn(len(words))
		words[i], words[j] = words[j], words[i]
		expect(strings.Join(words, " "))
	}
	if good < all/3 {
		t.Errorf("only %d of %d are read", good, all)
	}
}

func TestModelReadsAsThePackage(t *testing.T) {
	g := grower{rand.New(rand.NewSource(67)), kinds()}
	expectSameReadings(t, readBlock, modelBlock, g.random, func() string { return "{ " + g.text("$s", 1+g.random.Intn(4)) + " }" })
}

func TestModelReadsFilesAsThePackage(t *testing.T) {
	g := grower{rand.New(rand.NewSource(68)), kinds()}
	expectSameReadings(t, readFile, modelFile, g.random, func() string {
		return "package p ; " + g.fill(g.one(fileForms()), 1+g.random.Intn(3)) + g.one([]string{"", " ;", "\n", " ; ;"})
	})
}
