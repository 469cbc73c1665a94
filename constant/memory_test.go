package constant_test

import (
	"math/big"
	"reflect"
	"slices"
	"testing"

	"sterling/api"
	"sterling/constant"
)

// mark stands in the spare room of arguments.
const mark = 0xdeadbeef

// withSpareRoom is a copy of a with marked room behind it.
func withSpareRoom(a api.Big) api.Big {
	room := append(slices.Clone(a.Mag), mark, mark, mark)
	return api.Big{Neg: a.Neg, Mag: room[:len(a.Mag)]}
}

func spacious(c api.Const) api.Const {
	c.Num = api.Rat{Num: withSpareRoom(c.Num.Num), Den: withSpareRoom(c.Num.Den)}
	return c
}

func isUntouchedBig(a, before api.Big) bool {
	room := a.Mag[:len(before.Mag)+3]
	return a.Neg == before.Neg && slices.Equal(room, append(slices.Clone(before.Mag), mark, mark, mark))
}

func isUntouched(c, before api.Const) bool {
	return c.Kind == before.Kind && c.Bool == before.Bool && c.Text == before.Text &&
		isUntouchedBig(c.Num.Num, before.Num.Num) && isUntouchedBig(c.Num.Den, before.Num.Den)
}

// scribble writes into all that an answer's list can reach.
func scribble(a api.Big) {
	room := a.Mag[:cap(a.Mag)]
	for i := range room {
		room[i] = 0x5a5a5a5a
	}
}

// answers are all constants that the package answers of a and b.
func answers(a, b api.Const) []api.Const {
	var list []api.Const
	for _, op := range []string{"+", "-", "^", "!", "?"} {
		c, _ := constant.Unary(op, a)
		list = append(list, c)
	}
	for _, op := range []string{"+", "-", "*", "/", "%", "&", "|", "^", "&^", "&&", "||", "?"} {
		c, _ := constant.Binary(op, a, b)
		list = append(list, c)
	}
	for _, name := range append(basicNames(), "?") {
		c, _ := constant.Fits(a, name)
		d, _ := constant.Convert(a, name)
		list = append(list, c, d)
	}
	for _, n := range []api.Node{{Kind: api.NInt, Text: "0x1F"}, {Kind: api.NInt, Text: "0"}, {Kind: api.NFloat, Text: "1.5"}, {Kind: api.NString, Text: `"a"`}, {Kind: api.NInt, Text: "a"}} {
		c, _ := constant.Lit(n)
		list = append(list, c)
	}
	for _, op := range []string{"==", "<", "?"} {
		constant.Compare(op, a, b)
	}
	constant.Eq(a, b)
	constant.Default(a)
	return list
}

func copyBig(a api.Big) api.Big {
	return api.Big{Neg: a.Neg, Mag: slices.Clone(a.Mag)}
}

func copies(list []api.Const) []api.Const {
	var all []api.Const
	for _, c := range list {
		c.Num = api.Rat{Num: copyBig(c.Num.Num), Den: copyBig(c.Num.Den)}
		all = append(all, c)
	}
	return all
}

func sameConsts(a, b []api.Const) bool {
	sameBig := func(x, y api.Big) bool { return x.Neg == y.Neg && slices.Equal(x.Mag, y.Mag) }
	return slices.EqualFunc(a, b, func(x, y api.Const) bool {
		return x.Kind == y.Kind && x.Bool == y.Bool && x.Text == y.Text && sameBig(x.Num.Num, y.Num.Num) && sameBig(x.Num.Den, y.Num.Den)
	})
}

// arguments are constants of all kinds, also in other terms and such that may not be.
func arguments() []api.Const {
	all := []api.Const{
		{}, truth(true), truth(false), text(""), text("a"), {Kind: api.CInt}, {Kind: api.CFloat}, {Kind: api.CBool, Num: of(0, 1)}, {Kind: api.CInt, Num: of(1, 2)},
		{Kind: 77, Num: of(5, 1)}, number(api.CInt, power(9000)), number(api.CFloat, power(-9000)),
	}
	for _, r := range []*big.Rat{rat("0"), rat("1"), rat("-1"), rat("7"), rat("-300"), power(64), most(), minus(power(8191))} {
		c := number(api.CInt, r)
		all = append(all, c, scaled(c, big.NewInt(-6)), scaled(c, power(9000).Num()), api.Const{Kind: api.CInt, Num: api.Rat{Num: c.Num.Num}})
	}
	for _, r := range []*big.Rat{rat("0"), rat("2"), rat("-1/2"), rat("1/3"), rat("1e30"), power(-8191)} {
		c := number(api.CFloat, r)
		all = append(all, c, scaled(c, big.NewInt(10)), scaled(c, power(9000).Num()))
	}
	return all
}

func TestMemory(t *testing.T) {
	all := arguments()
	for _, first := range all {
		for _, second := range all {
			a, b := spacious(first), spacious(second)
			got := answers(a, b)
			if !isUntouched(a, first) || !isUntouched(b, second) {
				t.Fatalf("P0.3: a call changed its argument: %v, %v", first, second)
			}
			want := copies(got)
			for i, answer := range got {
				scribble(answer.Num.Num)
				if !slices.Equal(answer.Num.Den.Mag, want[i].Num.Den.Mag) {
					t.Fatalf("P0.3: an answer's two numbers share memory: %v, %v", first, second)
				}
				scribble(answer.Num.Den)
				if !sameConsts(got[i+1:], want[i+1:]) {
					t.Fatalf("P0.3: two answers share memory: %v, %v", first, second)
				}
			}
			if !isUntouched(a, first) || !isUntouched(b, second) {
				t.Fatalf("P0.3: an answer shares its argument's memory: %v, %v", first, second)
			}
			if !sameConsts(answers(a, b), want) {
				t.Fatalf("P0.3: an answer is kept: %v, %v", first, second)
			}
		}
	}
}

// One constant may be handed in twice, and one list as both of a fraction's numbers.
func TestSameArgumentTwice(t *testing.T) {
	for _, c := range arguments() {
		a := spacious(c)
		if !sameConsts(answers(a, a), answers(c, spacious(c))) {
			t.Errorf("P0.3: %v with itself is not as with its copy", c)
		}
		both := a
		both.Num.Den = both.Num.Num
		apart := a
		apart.Num.Den = copyBig(a.Num.Num)
		if !sameConsts(answers(both, both), answers(apart, apart)) {
			t.Errorf("P0.3: %v over itself is not as over its copy", c.Num.Num)
		}
		if !isUntouched(a, c) {
			t.Errorf("P0.3: a call changed its argument: %v", c)
		}
	}
}

// A nil list is the same as an empty one.
func TestEmptyLists(t *testing.T) {
	for _, kind := range []int{api.CBool, api.CString, api.CInt, api.CFloat} {
		bare := api.Const{Kind: kind}
		empty := api.Const{Kind: kind, Num: api.Rat{Num: api.Big{Mag: []uint32{}}, Den: api.Big{Mag: []uint32{}}}}
		if !constant.Eq(bare, empty) || constant.Default(bare) != constant.Default(empty) || !sameConsts(answers(bare, empty), answers(empty, bare)) {
			t.Errorf("P0.4: an empty list of kind %d is not as a nil one", kind)
		}
	}
}

// A node that is handed in stays as it was.
func TestLitKeepsNode(t *testing.T) {
	n := api.Node{Kind: api.NFloat, At: 7, Text: "1.50", Kids: []api.Node{{Kind: api.NInt, Text: "2"}}}
	before := api.Node{Kind: api.NFloat, At: 7, Text: "1.50", Kids: []api.Node{{Kind: api.NInt, Text: "2"}}}
	constant.Lit(n)
	if !reflect.DeepEqual(n, before) {
		t.Errorf("P0.3: Lit changed its node: %v", n)
	}
}
