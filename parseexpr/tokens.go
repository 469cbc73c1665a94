package parseexpr

import "sterling/api"

// ahead is the token that stands n tokens behind the next one; the last one if there are not as many.
func (r *Reader) ahead(n int) api.Token {
	if r == nil || len(r.tokens) == 0 {
		return api.Token{}
	}
	return r.tokens[min(r.at+n, len(r.tokens)-1)]
}

// closings is for each `[` the place among tokens of the `]` that goes with it, and 0 for all else.
func closings(tokens []api.Token) []int {
	closing := make([]int, len(tokens))
	var open []int
	for i, t := range tokens {
		switch last := len(open) - 1; {
		case is(t, "["):
			open = append(open, i)
		case is(t, "]") && last >= 0:
			closing[open[last]] = i
			open = open[:last]
		}
	}
	return closing
}

// is tells whether t is an operator or a word.
func is(t api.Token, text string) bool {
	return t.Text == text && (t.Kind == api.TOp || t.Kind == api.TWord)
}

func (r *Reader) sees(text string) bool { return is(r.Peek(), text) }

// skip passes over an operator or a word, if it is the next token.
func (r *Reader) skip(text string) bool {
	found := r.sees(text)
	if found {
		r.Next()
	}
	return found
}

func (r *Reader) need(text string) {
	if !r.skip(text) {
		panic(wrong{})
	}
}

func (r *Reader) needSemicolon() {
	if r.Peek().Kind != api.TSemi {
		panic(wrong{})
	}
	r.Next()
}

func (r *Reader) needName() api.Token {
	if r.Peek().Kind != api.TName {
		panic(wrong{})
	}
	return r.Next()
}

func node(kind, at int, text string, kids ...api.Node) api.Node {
	return api.Node{Kind: kind, At: at, Text: text, Kids: kids}
}

// list reads one or more with commas between, and one behind the last or none, up to the bracket that closes them.
func (r *Reader) list(closing string, read func() api.Node) []api.Node {
	kids := []api.Node{read()}
	for r.skip(",") && !r.sees(closing) {
		kids = append(kids, read())
	}
	r.need(closing)
	return kids
}

// members reads what stands in the braces of a struct or an interface.
func (r *Reader) members(read func() api.Node) []api.Node {
	var kids []api.Node
	r.need("{")
	for !r.skip("}") {
		kids = append(kids, read())
		if !r.sees("}") {
			r.needSemicolon()
		}
	}
	return kids
}
