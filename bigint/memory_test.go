package bigint_test

import (
	"slices"
	"testing"

	"sterling/api"
	"sterling/bigint"
)

// mark stands in the spare room of arguments.
const mark = 0xdeadbeef

// withSpareRoom is a copy of a with marked room behind it.
func withSpareRoom(a api.Big) api.Big {
	room := append(slices.Clone(a.Mag), mark, mark, mark)
	return api.Big{Neg: a.Neg, Mag: room[:len(a.Mag)]}
}

func isUntouched(a, before api.Big) bool {
	room := a.Mag[:len(before.Mag)+3]
	return a.Neg == before.Neg && slices.Equal(room, append(slices.Clone(before.Mag), mark, mark, mark))
}

// scribble writes into all that an answer's list can reach.
func scribble(a api.Big) {
	room := a.Mag[:cap(a.Mag)]
	for i := range room {
		room[i] = 0x5a5a5a5a
	}
}

// answers are all that the package answers of a and b.
func answers(a, b api.Big) []api.Big {
	list := []api.Big{bigint.Neg(a), bigint.Add(a, b), bigint.Sub(a, b), bigint.Mul(a, b)}
	quotient, rest, _ := bigint.Quo(a, b)
	list = append(list, quotient, rest)
	for _, op := range []string{"&", "|", "^", "&^", "?"} {
		answer, _ := bigint.Bitwise(op, a, b)
		list = append(list, answer)
	}
	bigint.Int64(a)
	bigint.Text(a)
	bigint.Cmp(a, b)
	bigint.Bits(a)
	return list
}

func sameNumbers(a, b []api.Big) bool {
	return slices.EqualFunc(a, b, func(x, y api.Big) bool {
		return x.Neg == y.Neg && slices.Equal(x.Mag, y.Mag)
	})
}

func copies(list []api.Big) []api.Big {
	var all []api.Big
	for _, a := range list {
		all = append(all, api.Big{Neg: a.Neg, Mag: slices.Clone(a.Mag)})
	}
	return all
}

func TestMemory(t *testing.T) {
	for _, p := range pairs() {
		a, b := withSpareRoom(p[0]), withSpareRoom(p[1])
		got := answers(a, b)
		if !isUntouched(a, p[0]) || !isUntouched(b, p[1]) {
			t.Fatalf("P1.4: a call changed its argument: %v, %v", p[0], p[1])
		}
		want := copies(got)
		for i, answer := range got {
			scribble(answer)
			if !sameNumbers(got[i+1:], want[i+1:]) {
				t.Fatalf("P1.4: two answers share memory: %v, %v", p[0], p[1])
			}
		}
		if !isUntouched(a, p[0]) || !isUntouched(b, p[1]) {
			t.Fatalf("P1.4: an answer shares its argument's memory: %v, %v", p[0], p[1])
		}
		if !sameNumbers(answers(a, b), want) {
			t.Fatalf("P1.4: an answer is kept: %v, %v", p[0], p[1])
		}
	}
}

// One list may be handed in twice.
func TestSameArgumentTwice(t *testing.T) {
	for _, edge := range edges() {
		a := withSpareRoom(edge)
		if !sameNumbers(answers(a, a), answers(edge, withSpareRoom(edge))) {
			t.Errorf("P1.4: %v with itself is not as with its copy", edge)
		}
		if !isUntouched(a, edge) {
			t.Errorf("P1.4: a call changed its argument: %v", edge)
		}
	}
}

func TestMadeNumbersAreNew(t *testing.T) {
	for _, n := range []int64{0, 1, -1, 1 << 40} {
		first := bigint.Of(n)
		scribble(first)
		if back, ok := bigint.Int64(bigint.Of(n)); back != n || !ok {
			t.Errorf("P1.4: Of(%d) is kept", n)
		}
	}
	for _, s := range []string{"0", "7", "123456789012345678901234567890"} {
		first, _ := bigint.Parse(s, 10)
		scribble(first)
		if again, _ := bigint.Parse(s, 10); bigint.Text(again) != s {
			t.Errorf("P1.4: Parse(%q) is kept", s)
		}
	}
}
