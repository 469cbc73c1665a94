package syntax_test

import (
	"math/rand"
	"strings"
	"testing"

	"sterling/api"
	"sterling/parsestmt"
	"sterling/syntax"
)

// The model by which Print is tested reads what the package that reads statements does.

func readBlock(source string) (api.Node, bool) { return parsestmt.Block([]byte(source)) }

// expectSameReading asks that a source is read by both or by none; it tells whether it is read.
func expectSameReading(t *testing.T, source string) bool {
	t.Helper()
	want, wanted := modelBlock(source)
	n, ok := readBlock(source)
	if ok != wanted || ok && !syntax.Eq(n, want) {
		t.Errorf("%q is read as %s, %t, by the model as %s, %t", source, whole(n), ok, whole(want), wanted)
	}
	return ok
}

func TestModelReadsAsThePackage(t *testing.T) {
	g := grower{rand.New(rand.NewSource(67)), kinds()}
	good, all := 0, 0
	expect := func(source string) {
		all++
		if expectSameReading(t, source) {
			good++
			expectText(t, readBlock, source)
		}
	}
	for range 20000 {
		source := "{ " + g.text("$s", 1+g.random.Intn(4)) + " }"
		expect(source)
		words := strings.Split(source, " ")
		i, j := g.random.Intn(len(words)), g.random.Intn(len(words))
		words[i], words[j] = words[j], words[i]
		expect(strings.Join(words, " "))
	}
	if good < all/3 {
		t.Errorf("only %d of %d are read", good, all)
	}
}
