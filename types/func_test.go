package types_test

import (
	"testing"

	"sterling/api"
	"sterling/types"
)

func TestFunc(t *testing.T) {
	for _, x := range []struct {
		params []api.Type
		result api.Type
		want   api.Type
		text   string
	}{
		{nil, api.Type{}, function(void()), "func()"},
		{[]api.Type{}, void(), function(void()), "func()"},
		{nil, integer, function(integer), "func() int"},
		{[]api.Type{integer}, api.Type{}, function(void(), integer), "func(int)"},
		{[]api.Type{integer, text}, void(), function(void(), integer, text), "func(int,string)"},
		{[]api.Type{text, integer}, named("error"), function(named("error"), text, integer), "func(string,int) error"},
		{[]api.Type{function(void())}, function(integer), function(function(integer), function(void())), "func(func()) func() int"},
		{nil, api.Type{Name: "int", Len: 7, Args: []api.Type{integer}, Names: []string{"a"}}, function(void()), "func()"},
	} {
		got := types.Func(x.params, x.result)
		if whole(got) != whole(x.want) || types.Text(got) != x.text || !types.May(got) || !types.Eq(got, x.want) {
			t.Errorf("P11.1: Func: %s, not %s", brief(got), x.text)
		}
	}
}

// Func puts together what it is given; of what may not be comes what may not be.
func TestFuncOfWhatMayNotBe(t *testing.T) {
	all := []refused{{"nothing", api.Type{}}, {"KNil", of(api.KNil)}, {"KUntyped", untyped("int")}, {"a basic type of another name", basic("x")}, {"a slice without an element", slice(api.Type{})}}
	all = append(all, withWrongMembers()...)
	for _, x := range append(all, refused{"KVoid", void()}) {
		params := []api.Type{integer, x.Type}
		got := types.Func(params, text)
		if whole(got) != whole(function(text, params...)) || types.May(got) || types.Text(got) != "" || types.Eq(got, got) {
			t.Errorf("P11.1: Func with %s as a parameter: %s", x.why, brief(got))
		}
	}
	for _, x := range all[1:] {
		got := types.Func([]api.Type{integer}, x.Type)
		if whole(got) != whole(function(x.Type, integer)) || types.May(got) || types.Text(got) != "" || types.Eq(got, got) {
			t.Errorf("P11.1: Func with %s as its result: %s", x.why, brief(got))
		}
	}
}

func TestFuncOfMany(t *testing.T) {
	for _, count := range []int{api.MaxSize - 2, api.MaxSize - 1, 1 << 18} {
		got := types.Func(repeated(integer, count), api.Type{})
		if got.Kind != api.KFunc || got.Len != count || len(got.Args) != count+1 || got.Args[count].Kind != api.KVoid {
			t.Errorf("P11.1: Func of %d parameters: %s", count, brief(got))
		}
		if types.May(got) != (count <= api.MaxSize-2) {
			t.Errorf("P11.1: Func of %d parameters: May is %v", count, types.May(got))
		}
	}
}
