package parsefile

import (
	"sterling/api"
	"sterling/parsestmt"
)

// refuse says that the next token may not stand where it does.
func (f *reader) refuse() { panic(wrong{f.Peek().At}) }

// sees tells whether an operator or a word comes next: no token of another kind has such a text.
func (f *reader) sees(text string) bool { return f.Peek().Text == text }

// skip passes over an operator or a word, if it is the next token.
func (f *reader) skip(text string) bool {
	found := f.sees(text)
	if found {
		f.Next()
	}
	return found
}

func (f *reader) need(text string) api.Token {
	if !f.sees(text) {
		f.refuse()
	}
	return f.Next()
}

func (f *reader) needKind(kind int) api.Token {
	if f.Peek().Kind != kind {
		f.refuse()
	}
	return f.Next()
}

func (f *reader) needName() api.Token { return f.needKind(api.TName) }

func (f *reader) needSemicolon() { f.needKind(api.TSemi) }

func (f *reader) nameNode() api.Node {
	t := f.needName()
	return node(api.NName, t.At, t.Text)
}

// part is what a layer below reads here; what it cannot read is wrong where it stopped.
func (f *reader) part(read func() (api.Node, bool)) api.Node {
	n, ok := read()
	if !ok {
		f.refuse()
	}
	return n
}

func (f *reader) typ() api.Node { return f.part(f.Type) }

func (f *reader) expr() api.Node {
	return f.part(func() (api.Node, bool) { return f.Expr(false) })
}

func (f *reader) block() api.Node {
	return f.part(func() (api.Node, bool) { return parsestmt.Read(f.Reader) })
}

// list reads one or more with commas between, and one behind the last or none, up to the bracket that closes them.
func (f *reader) list(closing string, read func() api.Node) []api.Node {
	kids := []api.Node{read()}
	for f.skip(",") && !f.sees(closing) {
		kids = append(kids, read())
	}
	f.need(closing)
	return kids
}

func node(kind, at int, text string, kids ...api.Node) api.Node {
	return api.Node{Kind: kind, At: at, Text: text, Kids: kids}
}
