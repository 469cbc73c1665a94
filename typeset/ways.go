package typeset

import (
	"sterling/api"
	"sterling/numbers"
)

// endless is what is panicked with where a way never ends.
type endless struct{}

// ends is what ask answers; false if it comes to a way that never ends.
func ends(ask func() bool) (answer bool) {
	defer func() {
		caught := recover()
		if caught == nil {
			return
		}
		if _, own := caught.(endless); !own {
			panic(caught)
		}
	}()
	return ask()
}

// One declared type may be met again and again, with other arguments each time: at most that often on one way, and on all
// of them. (Ways that all end may be more than can be gone.)
const (
	mostDepth = api.MaxSize
	mostMet   = api.MaxCells
)

// way is one on which declared types and type parameters lead to others.
type way struct {
	numbers *numbers.Numbers
	isOpen  []bool
	byName  map[string]meetings
	steps   []step
}

// meetings are how often a declared type is met: on the way from the first types to here, and at all.
type meetings struct {
	deep, all int
}

// step is a type that stands on the way, and those that it leads to and that are not gone to yet.
type step struct {
	number int
	name   string
	left   []api.Type
}

// goOver goes from the first types to those that they lead to, and on, to each once. It panics where a way comes back to a
// type that stands on it, and where it is too deep, as its types are others again and again. (It keeps the steps by itself:
// more types may be declared than calls can be nested.)
func goOver(first []api.Type, leadsTo func(api.Type) []api.Type) {
	w := way{numbers: numbers.New(), byName: make(map[string]meetings)}
	for _, t := range first {
		w.enter(t, leadsTo)
		for len(w.steps) > 0 {
			last := &w.steps[len(w.steps)-1]
			if len(last.left) == 0 {
				w.leave()
				continue
			}
			next := last.left[0]
			last.left = last.left[1:]
			w.enter(next, leadsTo)
		}
	}
}

func (w *way) enter(t api.Type, leadsTo func(api.Type) []api.Type) {
	number, isNew := w.numbers.Of(t)
	if !isNew {
		if w.isOpen[number] {
			panic(endless{})
		}
		return
	}
	met := w.byName[t.Name]
	met.deep++
	met.all++
	if met.deep > mostDepth || met.all > mostMet {
		panic(endless{})
	}
	w.byName[t.Name] = met
	w.isOpen = append(w.isOpen, true)
	w.steps = append(w.steps, step{number, t.Name, leadsTo(t)})
}

func (w *way) leave() {
	last := w.steps[len(w.steps)-1]
	w.steps = w.steps[:len(w.steps)-1]
	w.isOpen[last.number] = false
	met := w.byName[last.name]
	met.deep--
	w.byName[last.name] = met
}
