package scan_test

import (
	"math/big"
	"regexp"
	"strings"
	"unicode/utf8"

	"sterling/api"
)

// The model reads as the words of the chapter do, by patterns; what it finds wrong is a stretch, not one place.

var (
	modelBlank   = longest(`[ \t\r]`)
	modelLine    = longest(`//[^\n]*`)
	modelComment = regexp.MustCompile(`^(?s:/\*.*?\*/)`)
	modelName    = longest(`[A-Za-z_][A-Za-z_0-9]*`)
	modelNumber  = longest(`0|[1-9][0-9]*|0[xX][0-9a-fA-F]+|0[oO][0-7]+|0[bB][01]+|` +
		`[0-9]+\.[0-9]*([eE][+-]?[0-9]+)?|[0-9]+[eE][+-]?[0-9]+|\.[0-9]+([eE][+-]?[0-9]+)?|` +
		`0[xX]([0-9a-fA-F]+\.?[0-9a-fA-F]*|\.[0-9a-fA-F]+)[pP][+-]?[0-9]+`)
	modelWhole    = regexp.MustCompile(`^(0|[1-9][0-9]*|0[xX][0-9a-fA-F]+|0[oO][0-7]+|0[bB][01]+)$`)
	modelExponent = regexp.MustCompile(`^(?:0[xX][0-9a-fA-F.]*[pP]|[0-9.]*[eE])[+-]?([0-9]+)$`)
	modelQuoted   = longest(`"([^"\\\n]|\\[\\"nt]|\\x[0-9a-fA-F]{2}|\\u([0-9abcefABCEF][0-9a-fA-F]{3}|[dD][0-7][0-9a-fA-F]{2}))*"`)
	modelRaw      = longest("`[^`]*`")
)

const modelWords = " break case chan const continue default defer else fallthrough for func go goto if import " +
	"interface map package range return select struct switch type var "

const modelOperators = "+ - * / % & | ^ &^ += -= *= /= %= &= |= ^= &^= && || == != < <= > >= ! ( ) [ ] { } , ; . := = ++ -- ~ :"

func longest(pattern string) *regexp.Regexp {
	p := regexp.MustCompile(`^(?:` + pattern + `)`)
	p.Longest()
	return p
}

// modelScan is the tokens of s; or none, and where the wrong thing begins and where it cannot reach further.
func modelScan(s string) (tokens []api.Token, from, to int, ok bool) {
	endLine := func(at int) {
		if len(tokens) > 0 && modelAsks(tokens[len(tokens)-1]) {
			tokens = append(tokens, api.Token{Kind: api.TSemi, Text: "\n", At: at})
		}
	}
	for at := 0; at < len(s); {
		rest := s[at:]
		if rest[0] == '\n' {
			endLine(at)
			at++
			continue
		}
		if found := modelBlank.FindString(rest) + modelLine.FindString(rest); found != "" {
			at += len(found)
			continue
		}
		if found := modelComment.FindString(rest); found != "" {
			if strings.Contains(found, "\n") {
				endLine(at)
			}
			at += len(found)
			continue
		}
		kind, text := modelToken(rest)
		if text == "" {
			return nil, at, at + modelReach(rest), false
		}
		tokens = append(tokens, api.Token{Kind: kind, Text: text, At: at})
		at += len(text)
	}
	endLine(len(s))
	return append(tokens, api.Token{Kind: api.TEnd, At: len(s)}), 0, 0, true
}

func modelAsks(t api.Token) bool {
	asking := map[int]string{api.TWord: " break continue return ", api.TOp: " ++ -- ) ] } "}
	if list, ok := asking[t.Kind]; ok {
		return strings.Contains(list, " "+t.Text+" ")
	}
	return t.Kind != api.TSemi
}

func modelToken(rest string) (int, string) {
	if name := modelName.FindString(rest); name != "" {
		if strings.Contains(modelWords, " "+name+" ") {
			return api.TWord, name
		}
		return api.TName, name
	}
	if strings.HasPrefix(rest, "/*") {
		return 0, ""
	}
	if number := modelNumber.FindString(rest); number != "" {
		return modelNumberToken(number, rest[len(number):])
	}
	if text := modelQuoted.FindString(rest) + modelRaw.FindString(rest); text != "" {
		if !utf8.ValidString(text) {
			return 0, ""
		}
		return api.TString, text
	}
	best := ""
	for _, op := range strings.Fields(modelOperators) {
		if strings.HasPrefix(rest, op) && len(op) > len(best) {
			best = op
		}
	}
	if best == ";" {
		return api.TSemi, best
	}
	return api.TOp, best
}

func modelNumberToken(number, behind string) (int, string) {
	if behind != "" && strings.Contains("abcdefghijklmnopqrstuvwxyzABCDEFGHIJKLMNOPQRSTUVWXYZ_0123456789.", behind[:1]) {
		return 0, ""
	}
	if modelWhole.MatchString(number) {
		return api.TInt, number
	}
	if found := modelExponent.FindStringSubmatch(number); found != nil {
		exponent, _ := new(big.Int).SetString(found[1], 10)
		if exponent.Cmp(big.NewInt(999)) > 0 {
			return 0, ""
		}
	}
	return api.TFloat, number
}

// modelReach is how long the wrong thing that rest begins with is at most.
func modelReach(rest string) int {
	switch {
	case strings.HasPrefix(rest, "/*"), rest[0] == '`':
		return len(rest)
	case rest[0] == '"':
		return len(strings.SplitN(rest, "\n", 2)[0])
	}
	if found := regexp.MustCompile(`^\.?[0-9]([eEpP][+-]|[0-9A-Za-z_.])*`).FindString(rest); found != "" {
		return len(found)
	}
	return 1
}

var modelEscape = regexp.MustCompile(`\\(x..|u....|.)`)

// modelValue is what a literal says, if it is one.
func modelValue(lit string) (string, bool) {
	kind, text := 0, ""
	if lit != "" {
		kind, text = modelToken(lit)
	}
	if kind != api.TString || text != lit {
		return "", false
	}
	inner := lit[1 : len(lit)-1]
	if lit[0] == '`' {
		return strings.ReplaceAll(inner, "\r", ""), true
	}
	return modelEscape.ReplaceAllStringFunc(inner, func(escape string) string {
		code, _ := new(big.Int).SetString(escape[2:], 16)
		switch escape[1] {
		case 'n':
			return "\n"
		case 't':
			return "\t"
		case 'x':
			return string([]byte{byte(code.Int64())})
		case 'u':
			return string(rune(code.Int64()))
		}
		return escape[1:]
	}), true
}
