package subst

import "sterling/api"

// fillings are what is put for parameters: which one of args, by their names.
type fillings struct {
	places map[string]int
	args   []api.Type
}

// fillingsOf is of as many as both lists have; of a name that stands twice the first one counts.
func fillingsOf(names []string, args []api.Type) fillings {
	count := min(len(names), len(args))
	places := make(map[string]int, count)
	for i, name := range names[:count] {
		if _, isThere := places[name]; !isThere {
			places[name] = i
		}
	}
	return fillings{places, args}
}

// putInto is t, which may be, with what is put for its parameters. It shares memory with t and with what is put.
func (f fillings) putInto(t api.Type) api.Type {
	if t.Kind == api.KParam {
		return f.putFor(t)
	}
	t.Args = mapped(t.Args, f.putInto)
	t.Sets = mapped(t.Sets, f.putIntoUnion)
	return t
}

func (f fillings) putIntoUnion(union []api.Term) []api.Term {
	return mapped(union, f.putIntoTerm)
}

func (f fillings) putIntoTerm(term api.Term) api.Term {
	return api.Term{Tilde: term.Tilde, Type: f.putInto(term.Type)}
}

func (f fillings) putFor(param api.Type) api.Type {
	if place, isThere := f.places[param.Name]; isThere {
		return f.args[place]
	}
	return param
}

// mapped is a new list of what of gives of each element.
func mapped[A, B any](list []A, of func(A) B) []B {
	answers := make([]B, 0, len(list))
	for _, element := range list {
		answers = append(answers, of(element))
	}
	return answers
}
