package types

import (
	"iter"

	"sterling/api"
)

// mostBytes is how much a program may be given in all (DOC.md, Limits).
const mostBytes = 1<<31 - 1

// The bytes that an element of a list takes.
const (
	typeBytes  = 128
	nameBytes  = 16
	flagBytes  = 1
	unionBytes = 24
	termBytes  = 8 + typeBytes
)

// Clone is t in memory of its own, whether it may be or not. It is a zero Type if that would be more memory than may be
// given: lists may stand in many places, and even in themselves.
func Clone(t api.Type) api.Type {
	if !isWithinLimits(t) {
		return api.Type{}
	}
	for part := range within(&t) {
		ownLists(part)
	}
	return t
}

func isWithinLimits(t api.Type) bool {
	left := mostBytes
	for part := range within(&t) {
		left -= listBytes(part)
		if left < 0 {
			return false
		}
	}
	return true
}

// listBytes is what t's own lists take.
func listBytes(t *api.Type) int {
	bytes := typeBytes*len(t.Args) + nameBytes*len(t.Names) + flagBytes*len(t.Emb) + unionBytes*len(t.Sets)
	for _, union := range t.Sets {
		bytes += termBytes * len(union)
	}
	return bytes
}

// within goes over t and all types in it, each ahead of those in it. It keeps by itself what is still to come, as types
// that may not be may be deeper than calls can be nested.
func within(t *api.Type) iter.Seq[*api.Type] {
	return func(yield func(*api.Type) bool) {
		open := []*api.Type{t}
		for len(open) > 0 {
			last := len(open) - 1
			next := open[last]
			if !yield(next) {
				return
			}
			open = addParts(open[:last], next)
		}
	}
}

// addParts puts the types that stand in t itself to list.
func addParts(list []*api.Type, t *api.Type) []*api.Type {
	for i := range t.Args {
		list = append(list, &t.Args[i])
	}
	for _, union := range t.Sets {
		for i := range union {
			list = append(list, &union[i].Type)
		}
	}
	return list
}

// ownLists puts copies for t's own lists.
func ownLists(t *api.Type) {
	t.Args = copied(t.Args)
	t.Names = copied(t.Names)
	t.Emb = copied(t.Emb)
	t.Sets = copied(t.Sets)
	for i, union := range t.Sets {
		t.Sets[i] = copied(union)
	}
}

func copied[T any](list []T) []T {
	if list == nil {
		return nil
	}
	fresh := make([]T, len(list))
	copy(fresh, list)
	return fresh
}
