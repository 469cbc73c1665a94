package types_test

import (
	"fmt"
	"regexp"
	"slices"
	"strings"

	"sterling/api"
)

// The model says what the chapter says, as its words stand, without care for how long that takes.

var (
	modelName     = regexp.MustCompile(`^[A-Za-z_][A-Za-z_0-9]*$`)
	modelTypeName = regexp.MustCompile(`^(?:error|comparable|([A-Za-z0-9_.-](?:[A-Za-z0-9_/.-]*[A-Za-z0-9_.-])?)(?:~(?:0|[1-9][0-9]*))?\.[A-Za-z_][A-Za-z_0-9]*)$`)
	modelBasic    = regexp.MustCompile(`^(bool|string|int|int8|uint8|uint|float32|float64)$`)
	modelUntyped  = regexp.MustCompile(`^(bool|string|int|float)$`)
)

func isModelTypeName(name string) bool {
	found := modelTypeName.FindStringSubmatch(name)
	return found != nil && len(found[1]) <= 100 && !strings.HasSuffix(name, "\n")
}

func modelSize(t api.Type) int {
	size := 1
	for _, part := range modelParts(t) {
		size += modelSize(part)
	}
	return size
}

func modelDepth(t api.Type) int {
	deepest := 0
	for _, part := range modelParts(t) {
		deepest = max(deepest, modelDepth(part))
	}
	return deepest + 1
}

func modelParts(t api.Type) []api.Type {
	parts := slices.Clone(t.Args)
	for _, union := range t.Sets {
		for _, term := range union {
			parts = append(parts, term.Type)
		}
	}
	return parts
}

func modelMay(t api.Type) bool {
	return modelDepth(t) <= 200 && modelSize(t) <= 4096 && isModelType(t)
}

// isModelType is the same, but for depth and size.
func isModelType(t api.Type) bool {
	for i, part := range modelParts(t) {
		switch part.Kind {
		case api.KNil, api.KUntyped:
			return false
		case api.KVoid:
			if t.Kind != api.KFunc || i != len(t.Args)-1 {
				return false
			}
		}
		if !isModelType(part) {
			return false
		}
	}
	return hasModelFields(t)
}

func hasModelFields(t api.Type) bool {
	bare := api.Type{Kind: t.Kind}
	switch t.Kind {
	case api.KBasic:
		bare.Name = t.Name
		return isModelSame(t, bare) && modelBasic.MatchString(t.Name)
	case api.KUntyped:
		bare.Name = t.Name
		return isModelSame(t, bare) && modelUntyped.MatchString(t.Name)
	case api.KParam:
		bare.Name = t.Name
		return isModelSame(t, bare) && t.Name != ""
	case api.KNamed:
		bare.Name, bare.Args = t.Name, t.Args
		return isModelSame(t, bare) && isModelTypeName(t.Name)
	case api.KArray:
		bare.Len, bare.Args = t.Len, t.Args
		return isModelSame(t, bare) && len(t.Args) == 1 && t.Len >= 0 && t.Len <= 1<<20
	case api.KSlice, api.KPointer, api.KMap:
		bare.Args = t.Args
		want := map[int]int{api.KSlice: 1, api.KPointer: 1, api.KMap: 2}[t.Kind]
		return isModelSame(t, bare) && len(t.Args) == want
	case api.KFunc:
		bare.Len, bare.Args = t.Len, t.Args
		return isModelSame(t, bare) && len(t.Args) > 0 && len(t.Args)-1 == t.Len
	case api.KStruct:
		bare.Names, bare.Emb, bare.Args = t.Names, t.Emb, t.Args
		return isModelSame(t, bare) && isModelStruct(t)
	case api.KInterface:
		bare.Names, bare.Args, bare.Sets = t.Names, t.Args, t.Sets
		return isModelSame(t, bare) && isModelInterface(t)
	case api.KNil, api.KVoid:
		return isModelSame(t, bare)
	}
	return false
}

func isModelSame(a, b api.Type) bool { return whole(a) == whole(b) }

func isModelStruct(t api.Type) bool {
	if len(t.Names) != len(t.Args) || len(t.Emb) != len(t.Args) {
		return false
	}
	for i, name := range t.Names {
		if !modelName.MatchString(name) || name != "_" && slices.Index(t.Names, name) != i {
			return false
		}
		if t.Emb[i] {
			inner := t.Args[i]
			if inner.Kind == api.KPointer {
				inner = inner.Args[0]
			}
			behind := strings.Split(inner.Name, ".")
			if inner.Kind != api.KNamed || behind[len(behind)-1] != name {
				return false
			}
		}
	}
	return true
}

func isModelInterface(t api.Type) bool {
	if len(t.Names) != len(t.Args) || !slices.IsSorted(t.Names) {
		return false
	}
	for i, name := range t.Names {
		if !modelName.MatchString(name) || name == "_" || slices.Index(t.Names, name) != i || t.Args[i].Kind != api.KFunc {
			return false
		}
	}
	return !slices.ContainsFunc(t.Sets, func(union []api.Term) bool { return len(union) == 0 })
}

// modelEq holds two types that may be against each other, of sets each element against each.
func modelEq(a, b api.Type) bool {
	if a.Kind != b.Kind || a.Name != b.Name || a.Len != b.Len || !slices.Equal(a.Names, b.Names) || !slices.Equal(a.Emb, b.Emb) {
		return false
	}
	return slices.EqualFunc(a.Args, b.Args, modelEq) && areModelSetsEq(a.Sets, b.Sets, areModelUnionsEq)
}

func areModelUnionsEq(a, b []api.Term) bool {
	return areModelSetsEq(a, b, func(x, y api.Term) bool { return x.Tilde == y.Tilde && modelEq(x.Type, y.Type) })
}

func areModelSetsEq[T any](a, b []T, eq func(x, y T) bool) bool {
	holds := func(list, other []T) bool {
		for _, x := range other {
			if !slices.ContainsFunc(list, func(y T) bool { return eq(x, y) }) {
				return false
			}
		}
		return true
	}
	return holds(a, b) && holds(b, a)
}

// modelText is the text of a type that may be.
func modelText(t api.Type) string {
	args := []string{}
	for _, arg := range t.Args {
		args = append(args, modelText(arg))
	}
	switch t.Kind {
	case api.KParam:
		return fmt.Sprintf("$%d:%s", len(t.Name), t.Name)
	case api.KArray:
		return fmt.Sprintf("[%d]%s", t.Len, args[0])
	case api.KSlice:
		return fmt.Sprintf("[]%s", args[0])
	case api.KPointer:
		return fmt.Sprintf("*%s", args[0])
	case api.KMap:
		return fmt.Sprintf("map[%s]%s", args[0], args[1])
	case api.KFunc:
		if t.Args[t.Len].Kind == api.KVoid {
			return fmt.Sprintf("func(%s)", strings.Join(args[:t.Len], ","))
		}
		return fmt.Sprintf("func(%s) %s", strings.Join(args[:t.Len], ","), args[t.Len])
	case api.KStruct, api.KInterface:
		return modelMembers(t, args)
	case api.KNil:
		return "nil"
	case api.KUntyped:
		return "untyped " + t.Name
	case api.KVoid:
		return "void"
	}
	if len(args) == 0 {
		return t.Name
	}
	return fmt.Sprintf("%s[%s]", t.Name, strings.Join(args, ","))
}

func modelMembers(t api.Type, args []string) string {
	var list []string
	for i, name := range t.Names {
		switch {
		case t.Kind == api.KInterface:
			list = append(list, name+strings.TrimPrefix(args[i], "func"))
		case t.Emb[i]:
			list = append(list, "!"+name+" "+args[i])
		default:
			list = append(list, name+" "+args[i])
		}
	}
	if t.Kind == api.KStruct {
		return "struct{" + strings.Join(list, ";") + "}"
	}
	var unions []string
	for _, union := range t.Sets {
		var terms []string
		for _, term := range union {
			text := modelText(term.Type)
			if term.Tilde {
				text = "~" + text
			}
			terms = append(terms, text)
		}
		unions = append(unions, strings.Join(risingOnce(terms), "|"))
	}
	return "interface{" + strings.Join(append(list, risingOnce(unions)...), ";") + "}"
}

func risingOnce(list []string) []string {
	slices.Sort(list)
	return slices.Compact(list)
}
