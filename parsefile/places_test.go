package parsefile_test

import (
	"reflect"
	"strconv"
	"strings"
	"testing"

	"sterling/api"
	"sterling/parsefile"
	"sterling/scan"
	"sterling/syntax"
)

// expectShape asks that each node that a file adds is shaped as the table of doc/06-syntax.md has it, and stands where its
// first token does.
func expectShape(t *testing.T, source string, n api.Node) {
	t.Helper()
	tokens, _, _ := scan.Scan([]byte(source))
	texts := map[int]string{}
	for _, token := range tokens {
		texts[token.At] = token.Text
	}
	syntax.Walk(n, func(_, depth int, n api.Node) bool {
		if !shaped(n,
			texts[n.At]) || (n.Kind == api.NFile) != (depth == 0) || (n.Kind == api.NImport || n.Kind == api.NFunc) && depth != 1 {
			t.Errorf("P9.1: in %q %s is at %d, %q", source, told(n), n.At, texts[n.At])
		}
		return true
	})
}

// shaped tells whether n may begin with a token and has the kids that it must have.
func shaped(n api.Node, token string) bool {
	kids := len(n.Kids)
	switch n.Kind {
	case api.NNone:
		return reflect.DeepEqual(n, api.Node{})
	case api.NFile:
		return token == "package" && n.Text != "" && shapedFile(n.Kids)
	case api.NImport:
		return token == "import" && kids == 0
	case api.NVar:
		return token == "var" && n.Text != "" && kids == 2 && (n.Kids[0].Kind != api.NNone || n.Kids[1].Kind != api.NNone)
	case api.NConst:
		return token == "const" && n.Text != "" && kids == 2 && n.Kids[1].Kind != api.NNone
	case api.NType:
		return token == "type" && n.Text != "" && kids == 2 && shapedParameters(n.Kids[0]) && n.Kids[1].Kind != api.NNone
	case api.NFunc:
		return token == "func" && n.Text != "" && kids == 4 && shapedReceiver(n.Kids[0]) && shapedParameters(n.Kids[1]) &&
			(n.Kids[0].Kind == api.NNone || len(n.Kids[1].Kids) == 0) && n.Kids[2].Kind == api.NFuncType && n.Kids[3].Kind == api.NBlock
	case api.NParam:
		return (n.Text == "" && n.At == n.Kids[0].At || token == n.Text) && kids == 1
	case api.NName:
		return token == n.Text && kids == 0
	case api.NStar:
		return token == "*" && kids == 1
	case api.NTilde:
		return token == "~" && kids == 1
	case api.NUnion:
		return n.At == n.Kids[0].At
	case api.NInterface:
		return token == "interface" || kids == 1 && n.Kids[0].Kind == api.NUnion && n.At == n.Kids[0].At
	}
	return true
}

// shapedFile tells whether imports come first, and then declarations.
func shapedFile(kids []api.Node) bool {
	imports := true
	for _, n := range kids {
		switch n.Kind {
		case api.NImport:
			if !imports {
				return false
			}
		case api.NVar, api.NConst, api.NType, api.NFunc:
			imports = false
		default:
			return false
		}
	}
	return true
}

func shapedParameters(list api.Node) bool {
	for _, p := range list.Kids {
		if p.Kind != api.NParam || p.Text == "" {
			return false
		}
	}
	return list.Kind == api.NList && list.Text == "" && (len(list.Kids) > 0 || list.At == 0)
}

func shapedReceiver(n api.Node) bool {
	if n.Kind == api.NNone {
		return true
	}
	typ := n.Kids[0]
	if typ.Kind == api.NStar {
		typ = typ.Kids[0]
	}
	if typ.Kind == api.NIndex {
		for _, name := range typ.Kids {
			if name.Kind != api.NName {
				return false
			}
		}
		return len(typ.Kids) > 1 && typ.At == typ.Kids[0].At
	}
	return n.Kind == api.NParam && n.Text != "" && typ.Kind == api.NName
}

func toldPlaces(n api.Node) string {
	var all []string
	syntax.Walk(n, func(_, _ int, n api.Node) bool {
		all = append(all, told(api.Node{Kind: n.Kind, Text: n.Text})+"@"+strconv.Itoa(n.At))
		return true
	})
	return strings.Join(all, " ")
}

// The places of nodes, by hand.
func TestPlaces(t *testing.T) {
	for source, want := range map[string]string{
		"package p":                             "file:p@0",
		"// c\n package p":                      "file:p@6",
		"package p ; import \"a\"\nimport `b`":  "file:p@0 import:\"a\"@12 import:`b`@23",
		"package p ; var x T = 1":               "file:p@0 var:x@12 T@18 int:1@22",
		"package p ; var x = 1 ; var y T":       "file:p@0 var:x@12 -@0 int:1@20 var:y@24 T@30 -@0",
		"package p\nconst c = 1\nconst d T = 2": "file:p@0 const:c@10 -@0 int:1@20 const:d@22 T@30 int:2@34",
		"package p ; type T [ ] U":              "file:p@0 type:T@12 list@0 slice@19 U@23",
		"package p ; type T [ n ] U":            "file:p@0 type:T@12 list@0 array@19 n@21 U@25",
		"package p ; type T [ P C ] U":          "file:p@0 type:T@12 list@19 param:P@21 C@23 U@27",
		"package p ; type T [ P C , Q ~ D | * E , ] U": "file:p@0 type:T@12 list@19 param:P@21 C@23 param:Q@27 interface@29 union@29 tilde@29 D@31 " +
			"star@35 E@37 U@43",
		"package p ; type T [ P C | ~ D ] U":             "file:p@0 type:T@12 list@19 param:P@21 interface@23 union@23 C@23 tilde@27 D@29 U@33",
		"package p ; type T [ P interface { ~ C } ] U":   "file:p@0 type:T@12 list@19 param:P@21 interface@23 union@35 tilde@35 C@37 U@43",
		"package p ; func f ( ) { }":                     "file:p@0 func:f@12 -@0 list@0 sig@19 list@19 -@0 block@23",
		"package p ; func f ( a T , b U ) V { }":         "file:p@0 func:f@12 -@0 list@0 sig@19 list@19 param:a@21 T@23 param:b@27 U@29 V@33 block@35",
		"package p ; func f [ P C ] ( a P ) { x }":       "file:p@0 func:f@12 -@0 list@19 param:P@21 C@23 sig@27 list@27 param:a@29 P@31 -@0 block@35 do@37 x@37",
		"package p ; func ( r T ) m ( ) { }":             "file:p@0 func:m@12 param:r@19 T@21 list@0 sig@27 list@27 -@0 block@31",
		"package p ; func ( r * T [ A , B ] ) m ( ) { }": "file:p@0 func:m@12 param:r@19 star@21 index@23 T@23 A@27 B@31 list@0 sig@39 list@39 -@0 block@43",
		"package p ; var x = func ( ) { y }":             "file:p@0 var:x@12 -@0 funclit@20 sig@20 list@25 -@0 block@29 do@31 y@31",
	} {
		n, at, ok := parsefile.File([]byte(source))
		if got := toldPlaces(n); !ok || at != 0 || got != want {
			t.Errorf("P9.1: the places of %q are %s, %t, not %s", source, got, ok, want)
		}
	}
}

// The place of a fault is where reading stops, so that who is told it finds what to mend.
func TestPlacesOfFaults(t *testing.T) {
	for source, want := range map[string]int{
		"":                                 0,
		"  ":                               2,
		"x":                                0,
		"  var":                            2,
		"package":                          7,
		"package 1":                        8,
		"package p q":                      10,
		"package p; ;":                     11,
		"package p;;":                      10,
		"package p; x := 1":                11,
		"package p; import a":              18,
		"package p; import \"a\" b":        22,
		"package p; var x T; import \"a\"": 20,
		"package p; var":                   14,
		"package p; var x":                 16,
		"package p; var x = ":              19,
		"package p; var x T U":             19,
		"package p; const c T":             20,
		"package p; const c":               18,
		"package p; type T = U":            18,
		"package p; type T[n*2] int":       20,
		"package p; type T[P C, Q] U":      24,
		"package p; type T[P] ":            21,
		"package p; func () m() { }":       17,
		"package p; func (T) m() { }":      18,
		"package p; func (r p.T) m() { }":  20,
		"package p; func (r T, s T) m()":   20,
		"package p; func (r T) m[P C]()":   23,
		"package p; func f[]() { }":        18,
		"package p; func f(int) { }":       18,
		"package p; func f(T, U) { }":      18,
		"package p; func f()":              19,
		"package p; func f() { } x":        24,
		"package p; func f() { var }":      26,
		"package p; func f() { x y }":      24,
		"package p; var x = f(func() { y z })\nvar v T": 32,
	} {
		if n, at, ok := parsefile.File([]byte(source)); ok || at != want {
			t.Errorf("P9.1: %q is read as %s, %d, %t, not with the place %d", source, told(n), at, ok, want)
		}
	}
}
