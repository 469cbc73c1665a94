package ratio_test

import (
	"slices"
	"testing"

	"sterling/api"
	"sterling/ratio"
)

// mark stands in the spare room of arguments.
const mark = 0xdeadbeef

// withSpareRoom is a copy of a with marked room behind it.
func withSpareRoom(a api.Big) api.Big {
	room := append(slices.Clone(a.Mag), mark, mark, mark)
	return api.Big{Neg: a.Neg, Mag: room[:len(a.Mag)]}
}

func spacious(a api.Rat) api.Rat {
	return api.Rat{Num: withSpareRoom(a.Num), Den: withSpareRoom(a.Den)}
}

func isUntouched(a, before api.Big) bool {
	room := a.Mag[:len(before.Mag)+3]
	return a.Neg == before.Neg && slices.Equal(room, append(slices.Clone(before.Mag), mark, mark, mark))
}

func areUntouched(after, before [2]api.Rat) bool {
	return isUntouched(after[0].Num, before[0].Num) && isUntouched(after[0].Den, before[0].Den) &&
		isUntouched(after[1].Num, before[1].Num) && isUntouched(after[1].Den, before[1].Den)
}

// scribble writes into all that an answer's list can reach.
func scribble(a api.Big) {
	room := a.Mag[:cap(a.Mag)]
	for i := range room {
		room[i] = 0x5a5a5a5a
	}
}

// answers are all numbers that the package answers of a and b.
func answers(a, b api.Rat) []api.Big {
	made, _ := ratio.Of(a.Num, b.Den)
	quotient, _ := ratio.Quo(a, b)
	literal, _ := ratio.Parse("0x1.8p4")
	none, _ := ratio.Parse("none")
	var list []api.Big
	for _, r := range []api.Rat{
		made, quotient, literal, none, ratio.Whole(a.Num), ratio.Add(a, b), ratio.Sub(a, b), ratio.Mul(a, b), ratio.Neg(a),
	} {
		list = append(list, r.Num, r.Den)
	}
	number, _ := ratio.Int(a)
	ratio.Cmp(a, b)
	ratio.Text(a)
	return append(list, number)
}

func sameNumbers(a, b []api.Big) bool {
	return slices.EqualFunc(a, b, func(x, y api.Big) bool {
		return x.Neg == y.Neg && slices.Equal(x.Mag, y.Mag)
	})
}

func copies(list []api.Big) []api.Big {
	var all []api.Big
	for _, a := range list {
		all = append(all, api.Big{Neg: a.Neg, Mag: slices.Clone(a.Mag)})
	}
	return all
}

func TestMemory(t *testing.T) {
	for _, p := range pairs() {
		args := [2]api.Rat{spacious(p[0]), spacious(p[1])}
		got := answers(args[0], args[1])
		if !areUntouched(args, p) {
			t.Fatalf("P2.3: a call changed its argument: %v", p)
		}
		want := copies(got)
		for i, answer := range got {
			scribble(answer)
			if !sameNumbers(got[i+1:], want[i+1:]) {
				t.Fatalf("P2.3: two numbers that were answered share memory: %v", p)
			}
		}
		if !areUntouched(args, p) {
			t.Fatalf("P2.3: an answer shares its argument's memory: %v", p)
		}
		if !sameNumbers(answers(args[0], args[1]), want) {
			t.Fatalf("P2.3: an answer is kept: %v", p)
		}
	}
}

// One fraction may be handed in twice, and one number as both of a fraction's.
func TestSameArgumentTwice(t *testing.T) {
	for _, a := range fractions() {
		args := spacious(a)
		if !sameNumbers(answers(args, args), answers(a, spacious(a))) {
			t.Errorf("P2.3: %v with itself is not as with its copy", a)
		}
		both := api.Rat{Num: args.Num, Den: args.Num}
		if !sameNumbers(answers(both, both), answers(api.Rat{Num: a.Num, Den: withSpareRoom(a.Num)}, both)) {
			t.Errorf("P2.3: %v over itself is not as over its copy", a.Num)
		}
		if !areUntouched([2]api.Rat{args, args}, [2]api.Rat{a, a}) {
			t.Errorf("P2.3: a call changed its argument: %v", a)
		}
	}
}
