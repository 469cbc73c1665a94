package syntax

import (
	"slices"
	"strings"

	"sterling/api"
)

// Print is a text that is read as n, if any text is. Such a tree has its brackets as nodes, so none are put in; what is
// looked after are the blanks and the ends of lines, by which tokens are told apart and statements end.
func Print(n api.Node) string {
	p := printer{open: parts{n}}
	for len(p.open) > 0 {
		p.step()
	}
	return p.text.String()
}

// parts is what a text is made of, one behind the other: strings as they stand, nodes, turns, and parts again.
type parts []any

// turn is a part that says how the lines are laid out.
type turn int

const (
	newLine turn = iota
	further
	back
)

// printer is a text so far, and what is still to come, the next at the end: trees may be deeper than calls can be nested.
type printer struct {
	text   strings.Builder
	open   parts
	indent int
}

// step writes the next part, or puts for it what it is made of.
func (p *printer) step() {
	last := len(p.open) - 1
	next := p.open[last]
	p.open = p.open[:last]
	switch next := next.(type) {
	case string:
		p.text.WriteString(next)
	case turn:
		p.lay(next)
	case api.Node:
		p.open = append(p.open, expression(next))
	case parts:
		for _, part := range slices.Backward(next) {
			p.open = append(p.open, part)
		}
	}
}

func (p *printer) lay(t turn) {
	switch t {
	case further:
		p.indent++
	case back:
		p.indent--
	case newLine:
		// No line is further in than in any tree that is read: the text of a deeper one would grow as the square of its depth.
		p.text.WriteString("\n" + strings.Repeat("\t", min(p.indent, api.MaxDepth)))
	}
}

func joined(nodes []api.Node, between string) parts {
	var all parts
	for i, n := range nodes {
		if i > 0 {
			all = append(all, between)
		}
		all = append(all, n)
	}
	return all
}

func commas(nodes []api.Node) parts { return joined(nodes, ", ") }

// optional is a node that may be absent, with what goes ahead of it and behind it.
func optional(ahead string, n api.Node, behind string) parts {
	if n.Kind == api.NNone {
		return nil
	}
	return parts{ahead, n, behind}
}

// optionalText is the same for a text.
func optionalText(ahead, text, behind string) string {
	if text == "" {
		return ""
	}
	return ahead + text + behind
}

// lines is each node on a line of its own.
func lines(nodes []api.Node) parts {
	var all parts
	for _, n := range nodes {
		all = append(all, newLine, n)
	}
	return all
}

// block is nodes in braces, each on a line of its own and further in.
func block(nodes []api.Node) parts {
	if len(nodes) == 0 {
		return parts{"{}"}
	}
	return parts{"{", further, lines(nodes), back, newLine, "}"}
}

// kid is the kid of n with a number; an absent one if there is none, as in trees that nothing reads.
func kid(n api.Node, i int) api.Node {
	if i < len(n.Kids) {
		return n.Kids[i]
	}
	return api.Node{}
}

// kidsFrom is the kids of n from a number on.
func kidsFrom(n api.Node, i int) []api.Node {
	return n.Kids[min(i, len(n.Kids)):]
}
