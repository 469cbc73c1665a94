package numbers_test

import (
	"testing"

	"sterling/api"
	"sterling/numbers"
	"sterling/types"
)

func interfaceOf(name string) api.Type {
	method := types.Func(nil, api.Type{})
	return api.Type{Kind: api.KInterface, Names: []string{name}, Args: []api.Type{method}}
}

func unionOf(t api.Type) api.Type {
	return api.Type{Kind: api.KInterface, Sets: [][]api.Term{{{Type: t}}}}
}

// Types that are Eq have one number, the first ones the first; others have others, though their texts may be one.
func TestNumbers(t *testing.T) {
	function := types.Func(nil, api.Type{})
	twice := unionOf(types.Basic("int"))
	twice.Sets = append(twice.Sets, twice.Sets[0])
	all := []struct {
		t      api.Type
		number int
	}{
		{types.Basic("int"), 0}, {types.Basic("int8"), 1}, {types.Basic("int"), 0}, {api.Type{Kind: api.KNil}, 2},
		{interfaceOf("func"), 3}, {unionOf(function), 4}, {interfaceOf("func"), 3}, {unionOf(function), 4},
		{unionOf(types.Basic("int")), 5}, {twice, 5}, {interfaceOf("f"), 6}, {types.Basic("int8"), 1},
	}
	n, met := numbers.New(), 0
	for i, x := range all {
		number, isNew := n.Of(x.t)
		if number != x.number || isNew != (number == met) {
			t.Errorf("%d has the number %d, %v", i, number, isNew)
		}
		met = max(met, number+1)
	}
	for i, x := range all {
		if !types.Eq(n.Type(x.number), x.t) || n.Text(x.number) != types.Text(x.t) {
			t.Errorf("%d is %s, %v", i, n.Text(x.number), n.Type(x.number))
		}
	}
	if number, isNew := numbers.New().Of(types.Basic("string")); number != 0 || !isNew {
		t.Error("numbers are kept from one object to another")
	}
}
