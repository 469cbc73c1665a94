package types

import (
	"slices"
	"strconv"
	"strings"

	"sterling/api"
)

// Text is t as a text; empty if it may not be.
func Text(t api.Type) string {
	if !May(t) {
		return ""
	}
	return textOf(t)
}

// textOf is the text of a type that may be.
func textOf(t api.Type) string {
	switch t.Kind {
	case api.KBasic, api.KNamed:
		return t.Name + textOfArguments(t.Args)
	case api.KParam:
		return "$" + strconv.Itoa(len(t.Name)) + ":" + t.Name
	case api.KArray:
		return "[" + strconv.Itoa(t.Len) + "]" + textOf(t.Args[0])
	case api.KSlice:
		return "[]" + textOf(t.Args[0])
	case api.KPointer:
		return "*" + textOf(t.Args[0])
	case api.KMap:
		return "map[" + textOf(t.Args[0]) + "]" + textOf(t.Args[1])
	case api.KFunc:
		return "func" + textOfSignature(t)
	case api.KStruct:
		return "struct{" + strings.Join(textsOfFields(t), ";") + "}"
	case api.KInterface:
		return "interface{" + strings.Join(append(textsOfMethods(t), textsOfUnions(t)...), ";") + "}"
	case api.KNil:
		return "nil"
	case api.KUntyped:
		return "untyped " + t.Name
	}
	return "void"
}

func textOfList(list []api.Type) string {
	return strings.Join(mapped(list, textOf), ",")
}

func textOfArguments(args []api.Type) string {
	if len(args) == 0 {
		return ""
	}
	return "[" + textOfList(args) + "]"
}

// textOfSignature is a function's text behind `func`.
func textOfSignature(t api.Type) string {
	params, result := t.Args[:t.Len], t.Args[t.Len]
	text := "(" + textOfList(params) + ")"
	if result.Kind == api.KVoid {
		return text
	}
	return text + " " + textOf(result)
}

func textsOfFields(t api.Type) []string {
	var texts []string
	for i, name := range t.Names {
		text := name + " " + textOf(t.Args[i])
		if t.Emb[i] {
			text = "!" + text
		}
		texts = append(texts, text)
	}
	return texts
}

func textsOfMethods(t api.Type) []string {
	var texts []string
	for i, name := range t.Names {
		texts = append(texts, name+textOfSignature(t.Args[i]))
	}
	return texts
}

func textsOfUnions(t api.Type) []string {
	return risingOnce(mapped(t.Sets, textOfUnion))
}

func textOfUnion(union []api.Term) string {
	return strings.Join(risingOnce(mapped(union, textOfTerm)), "|")
}

// risingOnce puts texts in order, each once. It goes by the texts and not by what they are of, as two types that are not
// identical may have one text (see Eq).
func risingOnce(texts []string) []string {
	slices.Sort(texts)
	return slices.Compact(texts)
}

func textOfTerm(t api.Term) string {
	if t.Tilde {
		return "~" + textOf(t.Type)
	}
	return textOf(t.Type)
}
