package assign_test

import (
	"fmt"
	"slices"
	"strings"
	"testing"

	"sterling/api"
	"sterling/assign"
	"sterling/env"
)

// tellAll tells all that a type has, with what stands behind the end of its lists.
func tellAll(t api.Type) string {
	var b strings.Builder
	fmt.Fprintf(&b, "(%d %q %d %q %v", t.Kind, t.Name, t.Len, t.Names[:cap(t.Names)], t.Emb[:cap(t.Emb)])
	for _, arg := range t.Args[:cap(t.Args)] {
		b.WriteString(" " + tellAll(arg))
	}
	for _, union := range t.Sets[:cap(t.Sets)] {
		b.WriteString(" {")
		for _, term := range union[:cap(union)] {
			fmt.Fprint(&b, term.Tilde, tellAll(term.Type))
		}
		b.WriteString("}")
	}
	return b.String() + ")"
}

// spacious is a copy of t with marked room behind the end of each list.
func spacious(t api.Type) api.Type {
	t.Args, t.Names, t.Emb = withRoom(t.Args, param("Room")), withRoom(t.Names, "room"), withRoom(t.Emb, true)
	t.Sets = withRoom(t.Sets, []api.Term{{Type: param("Room")}})
	for i, arg := range t.Args {
		t.Args[i] = spacious(arg)
	}
	for i, union := range t.Sets {
		t.Sets[i] = withRoom(union, api.Term{Tilde: true, Type: param("Room")})
		for k, term := range union {
			t.Sets[i][k].Type = spacious(term.Type)
		}
	}
	return t
}

func withRoom[T any](list []T, mark T) []T {
	room := append(make([]T, 0, len(list)+2), list...)
	return append(room, mark, mark)[:len(list)]
}

// scribble writes over all that lists reach, their room too.
func scribble(all ...api.Type) {
	for _, t := range all {
		scribble(t.Args...)
		for _, union := range t.Sets {
			for _, term := range union {
				scribble(term.Type)
			}
			fill(union, api.Term{Type: of(55)})
		}
		fill(t.Args, of(55))
		fill(t.Names, "scribble")
		fill(t.Emb, true)
		fill(t.Sets, nil)
	}
}

func fill[T any](list []T, with T) {
	list = list[:cap(list)]
	for i := range list {
		list[i] = with
	}
}

const memorable = "int I T S SI L M Fn Ptr *I A Face any Any error Val *Po Em Rich []int []uint8 BsB string struct{a+int} struct{a+[]int;b+struct{c+*int};Val} func(int)+string map[string]int " +
	"List[int] List[[]N] Other[[]N] Pair[[]int,struct{a+int}] interface{M();N(int)} interface{N(a+[]int)[]int;Face;error} Use[List[int]] User[List[int]] N NT Bytes Empty Every EveryM Ls Lss Ss IntM Of nil void untyped+int untyped+string Num Cmp interface{~[]int|string;comparable}"

// ask tells all that is answered of the types, each with each.
func ask(e *env.Env, c api.Const, all []api.Type) []string {
	var told []string
	for _, x := range all {
		for _, y := range all {
			told = append(told, fmt.Sprint(assign.May(e, c, x, y), assign.Converts(e, c, x, y), assign.Compares(e, x, y, false), assign.Compares(e, x, y, true)))
		}
	}
	return told
}

func TestArgumentsStayAsTheyWere(t *testing.T) {
	w := declared(t, all)
	var asked, same []api.Type
	var before []string
	for _, src := range fields(memorable) {
		x := spacious(w.says(t, src))
		asked, same, before = append(asked, x), append(same, w.says(t, src)), append(before, tellAll(x))
	}
	five := literal(t, "5.0*5.0")
	five.Num.Num.Mag, five.Num.Den.Mag = withRoom(five.Num.Num.Mag, 7), withRoom(five.Num.Den.Mag, 7)
	for _, c := range []api.Const{none, literal(t, "5"), literal(t, `"a"`), five} {
		first := ask(w.Env, c, asked)
		for i, x := range asked {
			if tellAll(x) != before[i] {
				t.Fatalf("P0.3: an argument is changed: %s", before[i])
			}
		}
		if !slices.Equal(ask(w.Env, c, asked), first) {
			t.Errorf("P0.5: the same call tells something else")
		}
		if !slices.Equal(ask(w.Env, c, same), first) {
			t.Errorf("P0.5: equal arguments are told of otherwise")
		}
	}
	if n := five.Num; fmt.Sprint(n.Num.Mag[:cap(n.Num.Mag)], n.Den.Mag[:cap(n.Den.Mag)]) != "[25 7 7] [1 7 7]" {
		t.Errorf("P0.3: a constant is changed: %v", n)
	}
}

func TestArgumentsAreNotKept(t *testing.T) {
	w := declared(t, all)
	var asked, same []api.Type
	for _, src := range fields(memorable) {
		asked, same = append(asked, w.says(t, src)), append(same, w.says(t, src))
	}
	want := ask(w.Env, none, asked)
	scribble(asked...)
	if !slices.Equal(ask(w.Env, none, same), want) {
		t.Error("P0.3: an argument is kept")
	}
}

func TestDefaultIsNewMemory(t *testing.T) {
	w := declared(t, all)
	for _, src := range fields(memorable) {
		x := spacious(w.says(t, src))
		before := tellAll(x)
		first, second := assign.Default(x), assign.Default(x)
		told := tellAll(second)
		scribble(first)
		if tellAll(x) != before || tellAll(second) != told || tellAll(assign.Default(x)) != told {
			t.Errorf("P0.3: Default(%s) shares memory", src)
		}
	}
}
