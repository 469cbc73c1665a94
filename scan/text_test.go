package scan_test

import (
	"fmt"
	"math/rand"
	"strings"
	"testing"
	"unicode/utf8"

	"sterling/api"
	"sterling/scan"
)

// expectText asks for lit to be a string literal that says want, and for Scan to take it so.
func expectText(t *testing.T, lit, want string) {
	t.Helper()
	if got, ok := scan.Value(lit); !ok || got != want {
		t.Errorf("P5.1: Value(%.200q): %.200q, %t, not %.200q", lit, got, ok, want)
	}
	expectTokens(t, "a "+lit+" b", fmt.Sprintf("1a@0 4%s@2 1b@%d 7!@%d 0@%d", strings.ReplaceAll(lit, "\n", "!"), len(lit)+3, len(lit)+4, len(lit)+4))
}

func expectNoValue(t *testing.T, lit string) {
	t.Helper()
	if got, ok := scan.Value(lit); ok || got != "" {
		t.Errorf("P5.1: Value(%.200q): %.200q, %t", lit, got, ok)
	}
}

// expectBroken asks for lit to be a literal that is wrong.
func expectBroken(t *testing.T, lit string) {
	t.Helper()
	expectNoValue(t, lit)
	expectWrong(t, lit, 0, len(lit))
	expectWrong(t, "a "+lit, 2, 2+len(lit))
}

func TestQuotedStrings(t *testing.T) {
	for lit, want := range map[string]string{
		`""`: "", `"a"`: "a", `" "`: " ", `"ab c"`: "ab c", `"'"`: "'", "\"`\"": "`", `"//"`: "//", `"/*"`: "/*",
		`"\\"`: "\\", `"\""`: "\"", `"\n"`: "\n", `"\t"`: "\t", `"\\\\"`: "\\\\", `"\\n"`: "\\n", `"\\\n"`: "\\\n", `"\"\""`: "\"\"",
		`"\x00"`: "\x00", `"\x41"`: "A", `"\xff"`: "\xff", `"\xFF"`: "\xff", `"\xaBc"`: "\xabc", `"\xc3\xa9"`: "é",
		`"\u0000"`: "\x00", `"\u0041"`: "A", `"\u00e9"`: "é", `"\u20AC"`: "€", `"\ud7ff"`: "\ud7ff", `"\uE000"`: "\ue000", `"\uffff"`: "\uffff", `"\ufffd"`: "\ufffd", `"\u00411"`: "A1",
		`"a\tb\\c\"d\n"`: "a\tb\\c\"d\n", `"\x5cn"`: "\\n", `"\u005cn"`: "\\n", `"\x22"`: "\"", `"\x0a"`: "\n",
		"\"\t\"": "\t", "\"\r\"": "\r", "\"\x00\"": "\x00", "\"\x7f\"": "\x7f", "\"é\"": "é", "\"€😀\"": "€😀", "\"\ufffd\"": "\ufffd", "\"\ufeff\"": "\ufeff", "\"\u2028\"": "\u2028",
		"\"\U0010ffff\"": "\U0010ffff", "\"\ud7ff\ue000\"": "\ud7ff\ue000",
	} {
		expectText(t, lit, want)
	}
}

func TestRawStrings(t *testing.T) {
	for lit, want := range map[string]string{
		"``": "", "`a`": "a", "`\n`": "\n", "`a\nb\n`": "a\nb\n", "`\r`": "", "`a\r\nb\r`": "a\nb", "`\r\r\n\r`": "\n", "`\\`": "\\", "`\\n\\q\\x`": "\\n\\q\\x",
		"`\"`": "\"", "`//\n/*`": "//\n/*", "`é€😀`": "é€😀", "`\x00\t`": "\x00\t", "`\ufffd`": "\ufffd", "`\\ud800`": "\\ud800", "`\r\\r`": "\\r",
	} {
		expectText(t, lit, want)
	}
}

func TestBrokenStrings(t *testing.T) {
	for _, lit := range []string{
		`"`, `"a`, `"\"`, `"\`, `"\\\"`, "\"\n\"", "\"a\nb\"", "\"a\n", "\"\\\n\"", "\"\r\n\"",
		`"\q"`, `"\a"`, `"\b"`, `"\f"`, `"\r"`, `"\v"`, `"\'"`, `"\0"`, `"\000"`, `"\N"`, `"\T"`, `"\X41"`, `"\U00000041"`, `"\ "`, "\"\\`\"", `"\é"`,
		`"\x"`, `"\x1"`, `"\x`, `"\x1`, `"\xg0"`, `"\x0g"`, `"\x 1"`, `"\x+1"`, `"\x1_"`, `"\x-1"`,
		`"\u"`, `"\u1"`, `"\u12"`, `"\u123"`, `"\u`, `"\u123`, `"\u1234`, `"\u123g"`, `"\ug123"`, `"\u+123"`, `"\u 123"`, `"\u12_3"`, `"\u{12}"`,
		`"\ud800"`, `"\uD800"`, `"\udbff"`, `"\udc00"`, `"\uDFFF"`, `"\ud83d\ude00"`,
		"`", "`a", "`\n", "`\\", "`\r", "`\"",
	} {
		expectBroken(t, lit)
	}
}

func TestBytesInStrings(t *testing.T) {
	for _, bad := range []string{
		"\x80", "\xbf", "\xc0", "\xc0\x80", "\xc1\xbf", "\xc3", "\xc3\xc3", "\xc3(", "\xe2\x82", "\xe2", "\xe0\x80\x80", "\xe0\x9f\xbf",
		"\xed\xa0\x80", "\xed\xbf\xbf", "\xf0\x80\x80\x80", "\xf0\x8f\xbf\xbf", "\xf0\x9f\x98", "\xf4\x90\x80\x80", "\xf5\x80\x80\x80", "\xf8\x88\x80\x80\x80", "\xfe", "\xff",
		"é\x80", "a\xff", "\xc3\r\xa9", "\xef\xbf",
	} {
		for _, quote := range []string{"\"", "`"} {
			expectBroken(t, quote+bad+quote)
			expectBroken(t, quote+"a"+bad+"b"+quote)
			expectBroken(t, quote+bad)
		}
	}
	for _, good := range []string{"\xc2\x80", "\xdf\xbf", "\xe0\xa0\x80", "\xed\x9f\xbf", "\xee\x80\x80", "\xef\xbf\xbf", "\xf0\x90\x80\x80", "\xf4\x8f\xbf\xbf"} {
		expectText(t, "\""+good+"\"", good)
		expectText(t, "`"+good+"`", good)
	}
}

func TestValueOfEachEscape(t *testing.T) {
	for code := range 1 << 16 {
		lit, big := fmt.Sprintf(`"\u%04x"`, code), fmt.Sprintf(`"\u%04X"`, code)
		if !utf8.ValidRune(rune(code)) {
			expectNoValue(t, lit)
			expectNoValue(t, big)
			continue
		}
		for _, l := range []string{lit, big} {
			if got, ok := scan.Value(l); !ok || got != string(rune(code)) {
				t.Errorf("P5.1: Value(%q): %q, %t", l, got, ok)
			}
		}
	}
	for b := range 256 {
		c := string([]byte{byte(b)})
		expectText(t, fmt.Sprintf(`"\x%02x"`, b), c)
		expectText(t, fmt.Sprintf(`"\x%02X"`, b), c)
		if !strings.Contains("\\\"nt", c) {
			expectNoValue(t, `"\`+c+`"`)
		}
		for _, lit := range []string{`"` + c + `"`, "`" + c + "`", `"\x` + c + `0"`, `"\x0` + c + `"`, `"\u00` + c + `0"`, c, c + `"`, c + "``"} {
			want, wantOk := modelValue(lit)
			if got, ok := scan.Value(lit); got != want || ok != wantOk {
				t.Errorf("P5.1: Value(%q): %q, %t", lit, got, ok)
			}
		}
	}
}

func TestValueOfWhatIsNoString(t *testing.T) {
	for _, lit := range []string{
		"", " ", "a", "1", "nil", "'", "'a'", "''", "+", "\"a\"b", "\"a\"\"", "\"a\"\"b\"", "\"a\" ", " \"a\"", "\"a\"\n", "\n\"a\"", "``a", "`a``", "`a` ", " ``", "\"a`", "`a\"",
		"a\"b\"", "\"\" //", "/**/\"\"", "\"a\";", "“a”", "\xff", "\x00", "\"\"\"", "```", "\"a\"+\"b\"",
	} {
		expectNoValue(t, lit)
	}
}

var textPieces = []string{
	"\"", "\"", "`", "a", "é", "😀", "\\", "\\\\", "\\\"", "\\n", "\\t", "\\x4a", "\\xfF", "\\u20ac", "\\ud7ff", "\\ud800", "\\uDFFF", "\\x", "\\u", "0", "f", "g", "\n", "\r", "\t", " ",
	"\xff", "\xc3", "\xa9", "\xed\xa0\x80", "\xc0\xaf", "\x00", "//", "/*",
}

func TestLikeModelOnRandomTexts(t *testing.T) {
	random := rand.New(rand.NewSource(505))
	for i := range 30000 {
		var s strings.Builder
		quote := "\"`"[i&1 : i&1+1]
		s.WriteString(quote)
		for range random.Intn(7) {
			s.WriteString(textPieces[random.Intn(len(textPieces))])
		}
		if random.Intn(8) > 0 {
			s.WriteString(quote)
		}
		lit := s.String()
		expectLikeModel(t, lit)
		want, wantOk := modelValue(lit)
		if got, ok := scan.Value(lit); got != want || ok != wantOk {
			t.Errorf("P5.1: Value(%q): %q, %t, not %q, %t", lit, got, ok, want, wantOk)
		}
	}
}

// What Scan calls a string says something, and nothing else does.
func TestStringsAreThoseOfValue(t *testing.T) {
	random := rand.New(rand.NewSource(50))
	for range 10000 {
		var s strings.Builder
		for range 1 + random.Intn(5) {
			s.WriteString(textPieces[random.Intn(len(textPieces))])
		}
		tokens, _, ok := scanned(t, s.String())
		one := ok && len(tokens) == 3 && tokens[0].Kind == api.TString && tokens[0].Text == s.String()
		if _, says := scan.Value(s.String()); says != one {
			t.Errorf("P5.1: Scan(%q): %s, while Value tells %t", s.String(), told(tokens), says)
		}
	}
}

func TestValueOfLongStrings(t *testing.T) {
	const n = 100000
	expectText(t, "\""+strings.Repeat("\\n", n)+"\"", strings.Repeat("\n", n))
	expectText(t, "`"+strings.Repeat("a\r", n)+"`", strings.Repeat("a", n))
	expectNoValue(t, "\""+strings.Repeat("a", n))
	expectNoValue(t, strings.Repeat("\"", n))
	expectNoValue(t, "\""+strings.Repeat("a", n)+"\xff\"")
}
