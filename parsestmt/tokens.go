package parsestmt

import "sterling/api"

// sees tells whether an operator or a word comes next: no token of another kind has such a text.
func (s *reader) sees(text string) bool { return s.Peek().Text == text }

// skip passes over an operator or a word, if it is the next token.
func (s *reader) skip(text string) bool {
	found := s.sees(text)
	if found {
		s.Next()
	}
	return found
}

func (s *reader) need(text string) {
	if !s.skip(text) {
		panic(wrong{})
	}
}

func (s *reader) seesSemicolon() bool { return s.Peek().Kind == api.TSemi }

func (s *reader) skipSemicolon() bool {
	found := s.seesSemicolon()
	if found {
		s.Next()
	}
	return found
}

func (s *reader) needSemicolon() {
	if !s.skipSemicolon() {
		panic(wrong{})
	}
}

func (s *reader) needName() api.Token {
	if s.Peek().Kind != api.TName {
		panic(wrong{})
	}
	return s.Next()
}

func (s *reader) expr(head bool) api.Node {
	n, ok := s.Expr(head)
	if !ok {
		panic(wrong{})
	}
	return n
}

func (s *reader) typ() api.Node {
	n, ok := s.Type()
	if !ok {
		panic(wrong{})
	}
	return n
}

func node(kind, at int, text string, kids ...api.Node) api.Node {
	return api.Node{Kind: kind, At: at, Text: text, Kids: kids}
}

// gathered is a node that begins where the first of its kids does, if it has any.
func gathered(kind int, kids []api.Node) api.Node {
	n := api.Node{Kind: kind, Kids: kids}
	if len(kids) > 0 {
		n.At = kids[0].At
	}
	return n
}
