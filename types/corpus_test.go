package types_test

import (
	"math"
	"strings"

	"sterling/api"
)

// kinds are all that there are.
func kinds() []int {
	return []int{
		api.KBasic, api.KNamed, api.KParam, api.KArray, api.KSlice, api.KPointer, api.KMap, api.KFunc, api.KStruct, api.KInterface,
		api.KNil, api.KUntyped, api.KVoid,
	}
}

func unknownKinds() []int {
	return []int{api.KNone, -1, 14, 15, 16, 256 + api.KBasic, 1<<32 + api.KSlice, math.MaxInt, math.MinInt}
}

// plain is a type of that kind that may be.
func plain(kind int) api.Type {
	switch kind {
	case api.KBasic:
		return integer
	case api.KNamed:
		return named("a/b.T", text)
	case api.KParam:
		return param("p.T#0")
	case api.KArray:
		return array(3, integer)
	case api.KSlice:
		return slice(integer)
	case api.KPointer:
		return pointer(integer)
	case api.KMap:
		return mapOf(text, integer)
	case api.KFunc:
		return function(text, integer, integer)
	case api.KStruct:
		return structOf(member{name: "a", t: integer}, member{name: "T", t: named("a.T"), emb: true})
	case api.KInterface:
		return both(methods(member{name: "A", t: function(void())}, member{name: "B", t: function(integer)}), union(only(integer), tilde(text)), union(only(text)))
	case api.KUntyped:
		return untyped("int")
	}
	return of(kind)
}

// sound are types that may be, no two of them identical, with their texts.
func sound() map[string]api.Type {
	all := map[string]api.Type{"nil": of(api.KNil), "void": of(api.KVoid)}
	for _, name := range []string{"bool", "string", "int", "int8", "uint8", "uint", "float32", "float64"} {
		all[name] = basic(name)
	}
	for _, name := range []string{"bool", "string", "int", "float"} {
		all["untyped "+name] = untyped(name)
	}
	for _, list := range []map[string]api.Type{soundNames(), soundLists(), soundFunctions(), soundStructs(), soundInterfaces(), soundUnions()} {
		for text, t := range list {
			all[text] = t
		}
	}
	return all
}

func soundNames() map[string]api.Type {
	return map[string]api.Type{
		"error":                          named("error"),
		"comparable":                     named("comparable"),
		"error[int]":                     named("error", integer),
		"a.T":                            named("a.T"),
		"a.U":                            named("a.U"),
		"b.T":                            named("b.T"),
		"a~0.T":                          named("a~0.T"),
		"a~1.T":                          named("a~1.T"),
		"a~10.T":                         named("a~10.T"),
		"a.int":                          named("a.int"),
		"int.int":                        named("int.int"),
		"nil.T":                          named("nil.T"),
		"a/b.c-d._x9[int,string]":        named("a/b.c-d._x9", integer, text),
		"a.T[int]":                       named("a.T", integer),
		"a.T[string]":                    named("a.T", text),
		"a.T[string,int]":                named("a.T", text, integer),
		"a.T[int,string]":                named("a.T", integer, text),
		"a.T[a.T[int],string]":           named("a.T", named("a.T", integer), text),
		"a.T[a.T[int,string]]":           named("a.T", named("a.T", integer, text)),
		"a.T[[]int,[3]int,map[int]int]":  named("a.T", slice(integer), array(3, integer), mapOf(integer, integer)),
		"$1:P":                           param("P"),
		"$2:$1":                          param("$1"),
		"$3:int":                         param("int"),
		"$1: ":                           param(" "),
		"$1:,":                           param(","),
		"$1::":                           param(":"),
		"$1:]":                           param("]"),
		"$1:\x00":                        param("\x00"),
		"$1:\xff":                        param("\xff"),
		"$2:é":                           param("é"),
		"$3:1:P":                         param("1:P"),
		"$5:p.T#0":                       param("p.T#0"),
		"$12:" + strings.Repeat("x", 12): param(strings.Repeat("x", 12)),
		"$9:a,$1:b] ;":                   param("a,$1:b] ;"),
	}
}

func soundLists() map[string]api.Type {
	return map[string]api.Type{
		"[0]int":                     array(0, integer),
		"[1]int":                     array(1, integer),
		"[3]string":                  array(3, text),
		"[1048576]int":               array(1<<20, integer),
		"[2][3]int":                  array(2, array(3, integer)),
		"[3][2]int":                  array(3, array(2, integer)),
		"[]int":                      slice(integer),
		"[][]int":                    slice(slice(integer)),
		"[][1]int":                   slice(array(1, integer)),
		"*int":                       pointer(integer),
		"**int":                      pointer(pointer(integer)),
		"[]*int":                     slice(pointer(integer)),
		"*[]int":                     pointer(slice(integer)),
		"*a.T[int]":                  pointer(named("a.T", integer)),
		"map[int]string":             mapOf(integer, text),
		"map[string]int":             mapOf(text, integer),
		"map[map[int]string]int":     mapOf(mapOf(integer, text), integer),
		"map[int]map[string]int":     mapOf(integer, mapOf(text, integer)),
		"map[[2]int][]*string":       mapOf(array(2, integer), slice(pointer(text))),
		"map[$3:a]b]int":             mapOf(param("a]b"), integer),
		"map[$1:a]$5:b]int":          mapOf(param("a"), param("b]int")),
		"map[$8:a]$3:b]i]int":        mapOf(param("a]$3:b]i"), integer),
		"map[interface{}]struct{}":   mapOf(of(api.KInterface), of(api.KStruct)),
		"[]comparable":               slice(named("comparable")),
		"a.T[func(int),func() int]":  named("a.T", function(void(), integer), function(integer)),
		"a.T[interface{~int},$1:,]":  named("a.T", sets(union(tilde(integer))), param(",")),
		"a.T[$1:P,$1:Q]":             named("a.T", param("P"), param("Q")),
		"a.T[$6:P,$1:Q]":             named("a.T", param("P,$1:Q")),
		"map[$1:P]a.T[[]$1:P,error]": mapOf(param("P"), named("a.T", slice(param("P")), named("error"))),
	}
}

func soundFunctions() map[string]api.Type {
	return map[string]api.Type{
		"func()":                              function(void()),
		"func(int)":                           function(void(), integer),
		"func() int":                          function(integer),
		"func(int,string)":                    function(void(), integer, text),
		"func(string,int)":                    function(void(), text, integer),
		"func(int) string":                    function(text, integer),
		"func() func()":                       function(function(void())),
		"func(func())":                        function(void(), function(void())),
		"func(func() int)":                    function(void(), function(integer)),
		"func(func()) int":                    function(integer, function(void())),
		"func(func(),int)":                    function(void(), function(void()), integer),
		"func(func(int))":                     function(void(), function(void(), integer)),
		"func() func(int,string)":             function(function(void(), integer, text)),
		"func(int) func(string) error":        function(function(named("error"), text), integer),
		"func() *func() []func()":             function(pointer(function(slice(function(void()))))),
		"func($5:) int)":                      function(void(), param(") int")),
		"func() $6:x void":                    function(param("x void")),
		"func($1:a,$1:b)":                     function(void(), param("a"), param("b")),
		"func($6:a,$1:b)":                     function(void(), param("a,$1:b")),
		"func(interface{},$1:P) interface{}":  function(of(api.KInterface), of(api.KInterface), param("P")),
		"func(map[int]int,[0]struct{}) error": function(named("error"), mapOf(integer, integer), array(0, of(api.KStruct))),
	}
}

func soundStructs() map[string]api.Type {
	inner := named("a/b~2.T", integer)
	return map[string]api.Type{
		"struct{}":                            of(api.KStruct),
		"struct{a int}":                       structOf(member{name: "a", t: integer}),
		"struct{b int}":                       structOf(member{name: "b", t: integer}),
		"struct{_ int}":                       structOf(member{name: "_", t: integer}),
		"struct{_ int;_ int}":                 structOf(member{name: "_", t: integer}, member{name: "_", t: integer}),
		"struct{a int;b string}":              structOf(member{name: "a", t: integer}, member{name: "b", t: text}),
		"struct{b string;a int}":              structOf(member{name: "b", t: text}, member{name: "a", t: integer}),
		"struct{a string;b int}":              structOf(member{name: "a", t: text}, member{name: "b", t: integer}),
		"struct{T a/b~2.T[int]}":              structOf(member{name: "T", t: inner}),
		"struct{!T a/b~2.T[int]}":             structOf(member{name: "T", t: inner, emb: true}),
		"struct{T *a/b~2.T[int]}":             structOf(member{name: "T", t: pointer(inner)}),
		"struct{!T *a/b~2.T[int]}":            structOf(member{name: "T", t: pointer(inner), emb: true}),
		"struct{!error error}":                structOf(member{name: "error", t: named("error"), emb: true}),
		"struct{error error}":                 structOf(member{name: "error", t: named("error")}),
		"struct{!comparable *comparable}":     structOf(member{name: "comparable", t: pointer(named("comparable")), emb: true}),
		"struct{!_ a._}":                      structOf(member{name: "_", t: named("a._"), emb: true}),
		"struct{!range a.range;range0 int}":   structOf(member{name: "range", t: named("a.range"), emb: true}, member{name: "range0", t: integer}),
		"struct{!U b.c.U;T int}":              structOf(member{name: "U", t: named("b.c.U"), emb: true}, member{name: "T", t: integer}),
		"struct{U b.c.U;!T a.T}":              structOf(member{name: "U", t: named("b.c.U")}, member{name: "T", t: named("a.T"), emb: true}),
		"struct{a $1:x;b int}":                structOf(member{name: "a", t: param("x")}, member{name: "b", t: integer}),
		"struct{a $7:x;b int}":                structOf(member{name: "a", t: param("x;b int")}),
		"struct{a struct{b int};c int}":       structOf(member{name: "a", t: structOf(member{name: "b", t: integer})}, member{name: "c", t: integer}),
		"struct{a struct{b int;c int}}":       structOf(member{name: "a", t: structOf(member{name: "b", t: integer}, member{name: "c", t: integer})}),
		"struct{f func(int);_ func() int}":    structOf(member{name: "f", t: function(void(), integer)}, member{name: "_", t: function(integer)}),
		"[]struct{a interface{A();int|~int}}": slice(structOf(member{name: "a", t: both(methods(member{name: "A", t: function(void())}), union(tilde(integer), only(integer)))})),
	}
}

func soundInterfaces() map[string]api.Type {
	plainly, gives := function(void()), function(integer)
	return map[string]api.Type{
		"interface{}":                                     of(api.KInterface),
		"interface{A()}":                                  methods(member{name: "A", t: plainly}),
		"interface{a()}":                                  methods(member{name: "a", t: plainly}),
		"interface{A() int}":                              methods(member{name: "A", t: gives}),
		"interface{A(int)}":                               methods(member{name: "A", t: function(void(), integer)}),
		"interface{A();B() int}":                          methods(member{name: "A", t: plainly}, member{name: "B", t: gives}),
		"interface{A() int;B()}":                          methods(member{name: "A", t: gives}, member{name: "B", t: plainly}),
		"interface{B();a();func0();go()}":                 methods(member{name: "B", t: plainly}, member{name: "a", t: plainly}, member{name: "func0", t: plainly}, member{name: "go", t: plainly}),
		"interface{A();AA();_a()}":                        methods(member{name: "A", t: plainly}, member{name: "AA", t: plainly}, member{name: "_a", t: plainly}),
		"interface{A();int}":                              both(methods(member{name: "A", t: plainly}), union(only(integer))),
		"interface{A() int;A.A}":                          both(methods(member{name: "A", t: gives}), union(only(named("A.A")))),
		"interface{A(interface{A()}) interface{A();A.A}}": methods(member{name: "A", t: function(both(methods(member{name: "A", t: plainly}), union(only(named("A.A")))), methods(member{name: "A", t: plainly}))}),
		"interface{A($6:);B();) struct{x interface{}}}":   methods(member{name: "A", t: function(structOf(member{name: "x", t: of(api.KInterface)}), param(");B();"))}),
	}
}

func soundUnions() map[string]api.Type {
	return map[string]api.Type{
		"interface{int}":            sets(union(only(integer))),
		"interface{~int}":           sets(union(tilde(integer))),
		"interface{int|~int}":       sets(union(tilde(integer), only(integer))),
		"interface{int;~int}":       sets(union(tilde(integer)), union(only(integer))),
		"interface{int|string}":     sets(union(only(text), only(integer))),
		"interface{int;int|string}": sets(union(only(text), only(integer), only(text)), union(only(integer))),
		"interface{int;string}":     sets(union(only(text)), union(only(integer)), union(only(text))),
		"interface{string|~int}":    sets(union(tilde(integer), only(text))),
		"interface{int|~string}":    sets(union(tilde(text), only(integer))),
		"interface{~int|~string}":   sets(union(tilde(text), tilde(integer))),
		"interface{error}":          sets(union(only(named("error")))),
		"interface{comparable;int}": sets(union(only(integer)), union(only(named("comparable")))),
		"interface{$1:P|~$1:P}":     sets(union(tilde(param("P")), only(param("P")))),
		"interface{$3:a|b}":         sets(union(only(param("a|b")))),
		"interface{$1:a|$1:b}":      sets(union(only(param("b")), only(param("a")))),
		"interface{$6:a|$1:b}":      sets(union(only(param("a|$1:b")))),
		"interface{$1:a;$1:b}":      sets(union(only(param("b"))), union(only(param("a")))),
		"interface{$6:a;$1:b}":      sets(union(only(param("a;$1:b")))),
		"interface{$2:ab|$3:aab}":   sets(union(only(param("aab")), only(param("ab")))),
		"interface{*int|[10]int|[2]int|[]int|a.T|func()|int|map[int]int|struct{}|~[]int}": sets(union(tilde(slice(integer)), only(mapOf(integer, integer)), only(integer), only(of(api.KStruct)), only(function(void())),
			only(named("a.T")), only(slice(integer)), only(array(2, integer)), only(array(10, integer)), only(pointer(integer)))),
		"interface{func() int|string}":                         sets(union(only(text), only(function(integer)))),
		"interface{func() interface{int|string}}":              sets(union(only(function(sets(union(only(integer), only(text))))))),
		"interface{interface{}}":                               sets(union(only(of(api.KInterface)))),
		"interface{interface{interface{}}}":                    sets(union(only(sets(union(only(of(api.KInterface))))))),
		"interface{interface{int}|interface{string}}":          sets(union(only(sets(union(only(text)))), only(sets(union(only(integer)))))),
		"interface{interface{int};interface{string}}":          sets(union(only(sets(union(only(text))))), union(only(sets(union(only(integer)))))),
		"interface{interface{int;string}}":                     sets(union(only(sets(union(only(text)), union(only(integer)))))),
		"interface{interface{int|string}}":                     sets(union(only(sets(union(only(text), only(integer)))))),
		"interface{interface{int|string}|~interface{A();int}}": sets(union(tilde(both(methods(member{name: "A", t: function(void())}), union(only(integer)))), only(sets(union(only(text), only(integer)))))),
		"interface{a.T[interface{int|string}]}":                sets(union(only(named("a.T", sets(union(only(text), only(integer))))), only(named("a.T", sets(union(only(integer), only(text))))))),
	}
}
