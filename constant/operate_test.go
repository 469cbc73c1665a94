package constant_test

import (
	"math/big"
	"strconv"
	"strings"
	"testing"

	"sterling/api"
	"sterling/constant"
)

// operators are all that the language has, those of doc/10 among them, and what is none.
func operators() []string {
	return append(strings.Fields("+ - * / % & | ^ &^ && || == != < <= > >= ! += -= = := ++ -- ~ << >> <- ( ) [ . , ; ? not and mod"),
		"", " ", " +", "+ ", "++=", "&&&", "=", "===", "\x00", "+\x00", "\xff", "plus", strings.Repeat("+", 1000))
}

// wantUnary is what op of a must be, worked out by the library.
func wantUnary(op string, a sample) string {
	switch {
	case op == "!" && a.Kind == api.CBool:
		return strconv.FormatBool(!a.Bool)
	case op == "+" && a.isNumber():
		return tellNumber(a.Kind, a.r)
	case op == "-" && a.isNumber():
		return tellNumber(a.Kind, minus(a.r))
	case op == "^" && a.Kind == api.CInt:
		return tellNumber(a.Kind, plus(minus(a.r), -1))
	}
	return none
}

func TestUnary(t *testing.T) {
	for _, op := range operators() {
		for _, a := range samples() {
			want := wantUnary(op, a)
			if got := tell(constant.Unary(op, a.Const)); got != want {
				t.Errorf("P10.2: %s of %s: %s, not %s", brief(op), a, brief(got), brief(want))
			}
		}
	}
}

// wantBinary is what a op b must be, worked out by the library.
func wantBinary(op string, a, b sample) string {
	switch {
	case a.Kind == api.CBool && b.Kind == api.CBool:
		return wantLogic(op, a.Bool, b.Bool)
	case a.Kind == api.CString && b.Kind == api.CString && op == "+":
		return tellText(a.Text + b.Text)
	case a.Kind == api.CInt && b.Kind == api.CInt:
		return wantInt(op, a.r.Num(), b.r.Num())
	case a.isNumber() && b.isNumber():
		return wantFloat(op, a.r, b.r)
	}
	return none
}

func wantLogic(op string, a, b bool) string {
	switch op {
	case "&&":
		return strconv.FormatBool(a && b)
	case "||":
		return strconv.FormatBool(a || b)
	}
	return none
}

func wantInt(op string, a, b *big.Int) string {
	n := new(big.Int)
	calls := map[string]func(x, y *big.Int) *big.Int{
		"+": n.Add, "-": n.Sub, "*": n.Mul, "/": n.Quo, "%": n.Rem, "&": n.And, "|": n.Or, "^": n.Xor, "&^": n.AndNot,
	}
	call, ok := calls[op]
	if !ok || (op == "/" || op == "%") && b.Sign() == 0 {
		return none
	}
	return tellNumber(api.CInt, new(big.Rat).SetInt(call(a, b)))
}

func wantFloat(op string, a, b *big.Rat) string {
	r := new(big.Rat)
	calls := map[string]func(x, y *big.Rat) *big.Rat{"+": r.Add, "-": r.Sub, "*": r.Mul, "/": r.Quo}
	call, ok := calls[op]
	if !ok || op == "/" && b.Sign() == 0 {
		return none
	}
	return tellNumber(api.CFloat, call(a, b))
}

func expectBinary(t *testing.T, op string, a, b sample) {
	t.Helper()
	want := wantBinary(op, a, b)
	if got := tell(constant.Binary(op, a.Const, b.Const)); got != want {
		t.Errorf("P10.2: %s %s %s: %s, not %s", a, brief(op), b, brief(got), brief(want))
	}
}

// isHard tells whether a fraction is one with which all others take long.
func (s sample) isHard() bool {
	return s.r != nil && min(s.r.Num().BitLen(), s.r.Denom().BitLen()) > 4000
}

func TestBinary(t *testing.T) {
	all := samples()
	for i, a := range all {
		for j, b := range all {
			if (a.isHard() || b.isHard()) && (i+j)%9 != 0 {
				continue
			}
			for _, op := range operators() {
				expectBinary(t, op, a, b)
			}
		}
		if t.Failed() {
			t.FailNow()
		}
	}
}

// wantCompare is the truth of a op b, and whether there is one, worked out by the library.
func wantCompare(op string, a, b sample) (bool, bool) {
	order, ordered := 0, true
	switch {
	case a.Kind == api.CBool && b.Kind == api.CBool:
		ordered = false
		if a.Bool != b.Bool {
			order = 1
		}
	case a.Kind == api.CString && b.Kind == api.CString:
		order = compareBytes(a.Text, b.Text)
	case a.isNumber() && b.isNumber():
		order = a.r.Cmp(b.r)
	default:
		return false, false
	}
	truths := map[string]bool{"==": order == 0, "!=": order != 0}
	if ordered {
		truths["<"], truths["<="], truths[">"], truths[">="] = order < 0, order <= 0, order > 0, order >= 0
	}
	truth, ok := truths[op]
	return truth, ok
}

// compareBytes goes byte by byte; what ends first is below.
func compareBytes(a, b string) int {
	for i := 0; i < len(a) && i < len(b); i++ {
		if a[i] != b[i] {
			return int(a[i]) - int(b[i])
		}
	}
	return len(a) - len(b)
}

func TestCompare(t *testing.T) {
	all := samples()
	for _, a := range all {
		for _, b := range all {
			for _, op := range operators() {
				want, wantOk := wantCompare(op, a, b)
				if got, ok := constant.Compare(op, a.Const, b.Const); got != want || ok != wantOk {
					t.Errorf("P10.2: Compare %s %s %s: %v, %v", a, brief(op), b, got, ok)
				}
			}
		}
	}
}

// parse is the constant that a short text tells: as tell does.
func parse(s string) sample {
	switch {
	case s == "true" || s == "false":
		return sample{Const: truth(s == "true")}
	case s[0] == '"':
		inner, _ := strconv.Unquote(s)
		return sample{Const: text(inner)}
	case strings.HasPrefix(s, "float "):
		r := rat(s[len("float "):])
		return sample{number(api.CFloat, r), r}
	}
	return sample{number(api.CInt, rat(s)), rat(s)}
}

// The words of the chapter, one by one, without a model.
func TestNamedOperations(t *testing.T) {
	for _, c := range [][4]string{
		{"7", "/", "2", "3"}, {"-7", "/", "2", "-3"}, {"7", "/", "-2", "-3"}, {"-7", "/", "-2", "3"}, {"6", "/", "-3", "-2"}, {"1", "/", "2", "0"}, {"-1", "/", "2", "0"},
		{"7", "%", "2", "1"}, {"-7", "%", "2", "-1"}, {"7", "%", "-2", "1"}, {"-7", "%", "-2", "-1"}, {"6", "%", "-3", "0"}, {"-1", "%", "5", "-1"}, {"0", "%", "-5", "0"},
		{"0", "/", "5", "0"}, {"5", "/", "0", none}, {"0", "/", "0", none}, {"5", "%", "0", none}, {"0", "%", "0", none},
		{"5", "/", "float 0", none}, {"float 5", "/", "0", none}, {"float 5/2", "/", "float 0", none}, {"float 0", "/", "0", none}, {"5", "%", "float 0", none},
		{"7", "/", "float 2", "float 7/2"}, {"float 7", "/", "2", "float 7/2"}, {"float 7", "/", "float 2", "float 7/2"}, {"float 6", "/", "3", "float 2/1"},
		{"6", "/", "float 3", "float 2/1"}, {"-7", "/", "float 2", "float -7/2"}, {"float 1/2", "/", "float -3/4", "float -2/3"},
		{"1", "+", "float 1/2", "float 3/2"}, {"float 1/2", "-", "1", "float -1/2"}, {"2", "*", "float 1/2", "float 1/1"}, {"float 1/2", "+", "float 1/2", "float 1/1"},
		{"float 3", "-", "float 3", "float 0/1"}, {"2", "-", "5", "-3"}, {"-4", "*", "-5", "20"}, {"0", "*", "-5", "0"}, {"4", "+", "-4", "0"},
		{"float 7", "%", "2", none}, {"7", "%", "float 2", none}, {"float 7", "%", "float 2", none}, {"float 6", "&", "3", none}, {"6", "|", "float 3", none},
		{"float 6", "^", "float 3", none}, {"float 6", "&^", "float 3", none},
		{"6", "&", "3", "2"}, {"6", "|", "3", "7"}, {"6", "^", "3", "5"}, {"6", "&^", "3", "4"},
		{"-6", "&", "3", "2"}, {"-6", "|", "3", "-5"}, {"-6", "^", "3", "-7"}, {"-6", "&^", "3", "-8"},
		{"6", "&", "-3", "4"}, {"6", "|", "-3", "-1"}, {"6", "^", "-3", "-5"}, {"6", "&^", "-3", "2"},
		{"-6", "&", "-3", "-8"}, {"-6", "|", "-3", "-1"}, {"-6", "^", "-3", "7"}, {"-6", "&^", "-3", "2"},
		{"-1", "&", "18446744073709551616", "18446744073709551616"}, {"0", "&^", "-1", "0"}, {"-1", "^", "-1", "0"},
		{"true", "&&", "true", "true"}, {"true", "&&", "false", "false"}, {"false", "&&", "true", "false"}, {"false", "&&", "false", "false"},
		{"true", "||", "true", "true"}, {"true", "||", "false", "true"}, {"false", "||", "true", "true"}, {"false", "||", "false", "false"},
		{"true", "&", "true", none}, {"true", "==", "true", none}, {"true", "&&", "1", none}, {"1", "||", "1", none}, {`"a"`, "&&", `"b"`, none},
		{`"a"`, "+", `"b"`, `"ab"`}, {`""`, "+", `""`, `""`}, {`"b"`, "+", `""`, `"b"`}, {`"a"`, "*", `"b"`, none}, {`"a"`, "+", "1", none}, {"1", "+", `"a"`, none}, {"true", "+", "false", none},
		{"1", "==", "1", none}, {"1", "<", "2", none}, {"1", "", "2", none}, {"1", "<<", "2", none},
	} {
		if got := tell(constant.Binary(c[1], parse(c[0]).Const, parse(c[2]).Const)); got != c[3] {
			t.Errorf("P10.2: %s %s %s: %s, not %s", c[0], c[1], c[2], got, c[3])
		}
	}
	for _, c := range [][3]string{
		{"+", "5", "5"}, {"+", "-5", "-5"}, {"+", "float 5/2", "float 5/2"}, {"-", "5", "-5"}, {"-", "-5", "5"}, {"-", "0", "0"}, {"-", "float 0", "float 0/1"}, {"-", "float -1/2", "float 1/2"},
		{"^", "0", "-1"}, {"^", "-1", "0"}, {"^", "5", "-6"}, {"^", "-6", "5"}, {"^", "4294967295", "-4294967296"}, {"^", "float 5", none}, {"^", "true", none},
		{"!", "true", "false"}, {"!", "false", "true"}, {"!", "0", none}, {"!", `""`, none}, {"-", "true", none}, {"+", `"a"`, none}, {"-", `"a"`, none}, {"", "5", none}, {"*", "5", none},
	} {
		if got := tell(constant.Unary(c[0], parse(c[1]).Const)); got != c[2] {
			t.Errorf("P10.2: %s of %s: %s, not %s", c[0], c[1], got, c[2])
		}
	}
}

func TestNamedComparisons(t *testing.T) {
	// Of each line: the operands, and the operators that are true and those that are false; all others there are not.
	for _, c := range [][4]string{
		{"1", "2", "!= < <=", "== > >="},
		{"2", "1", "!= > >=", "== < <="},
		{"-2", "1", "!= < <=", "== > >="},
		{"2", "2", "== <= >=", "!= < >"},
		{"2", "float 2", "== <= >=", "!= < >"},
		{"float 5/2", "2", "!= > >=", "== < <="},
		{"float 1/3", "float 1/2", "!= < <=", "== > >="},
		{"float -1/3", "float -1/2", "!= > >=", "== < <="},
		{`"a"`, `"b"`, "!= < <=", "== > >="},
		{`"a"`, `"a"`, "== <= >=", "!= < >"},
		{`"a"`, `"ab"`, "!= < <=", "== > >="},
		{`"b"`, `"ab"`, "!= > >=", "== < <="},
		{`""`, `"\x00"`, "!= < <=", "== > >="},
		{`"Z"`, `"a"`, "!= < <=", "== > >="},
		{`"\xff"`, `"\uffff"`, "!= > >=", "== < <="},
		{`"\x80"`, `"z"`, "!= > >=", "== < <="},
		{`"10"`, `"9"`, "!= < <=", "== > >="},
		{"true", "true", "==", "!="},
		{"true", "false", "!=", "=="},
		{"false", "false", "==", "!="},
		{"false", "true", "!=", "=="},
		{"true", "1", "", ""},
		{"1", `"1"`, "", ""},
		{`"true"`, "true", "", ""},
		{"float 0", "false", "", ""},
	} {
		for _, op := range operators() {
			holds, fails := strings.Contains(" "+c[2]+" ", " "+op+" "), strings.Contains(" "+c[3]+" ", " "+op+" ")
			if strings.TrimSpace(op) != op || op == "" {
				holds, fails = false, false
			}
			got, ok := constant.Compare(op, parse(c[0]).Const, parse(c[1]).Const)
			if got != holds || ok != (holds || fails) {
				t.Errorf("P10.2: Compare %s %s %s: %v, %v", c[0], brief(op), c[1], got, ok)
			}
		}
	}
}

// great is an operation whose answer is just as great as it may be, or just beyond.
type great struct {
	a    *big.Rat
	op   string
	b    *big.Rat
	fits bool
}

func (g great) expect(t *testing.T, kindA, kindB int) {
	t.Helper()
	a, b := sample{number(kindA, g.a), g.a}, sample{number(kindB, g.b), g.b}
	expectBinary(t, g.op, a, b)
	if _, ok := constant.Binary(g.op, a.Const, b.Const); ok != g.fits {
		t.Errorf("P10.2: %s %s %s: %v", a, g.op, b, ok)
	}
}

func inverse(r *big.Rat) *big.Rat {
	return new(big.Rat).Inv(r)
}

func TestGreatWholes(t *testing.T) {
	half, one, two, top := power(api.MaxBits-1), rat("1"), rat("2"), most()
	for _, g := range []great{
		{plus(top, -1), "+", one, true}, {top, "+", one, false}, {one, "+", top, false}, {half, "+", half, false}, {half, "+", plus(half, -1), true},
		{minus(top), "-", one, false}, {plus(minus(top), 1), "-", one, true}, {top, "-", top, true}, {top, "-", minus(one), false},
		{half, "*", one, true}, {half, "*", two, false}, {half, "*", minus(two), false}, {power(4096), "*", power(4095), true}, {power(4096), "*", power(4096), false},
		{plus(power(4096), -1), "*", plus(power(4096), 1), true}, {top, "*", top, false}, {top, "*", minus(one), true},
	} {
		g.expect(t, api.CInt, api.CInt)
		g.expect(t, api.CInt, api.CFloat)
		g.expect(t, api.CFloat, api.CInt)
		g.expect(t, api.CFloat, api.CFloat)
	}
	for _, g := range []great{
		{minus(top), "&", minus(two), false}, {minus(top), "&", minus(one), true}, {minus(top), "|", minus(two), true}, {top, "^", minus(one), false}, {plus(top, -1), "^", minus(one), true},
		{minus(top), "&^", one, false}, {minus(half), "^", plus(half, -1), true}, {minus(half), "^", half, false}, {top, "|", one, true}, {half, "^", plus(half, -1), true},
		{top, "/", minus(one), true}, {top, "%", half, true},
	} {
		g.expect(t, api.CInt, api.CInt)
	}
}

func TestGreatFractions(t *testing.T) {
	half, one, two, top := power(api.MaxBits-1), rat("1"), rat("2"), most()
	for _, g := range []great{
		{one, "/", half, true}, {one, "/", top, true}, {inverse(half), "/", two, false}, {inverse(half), "*", inverse(two), false}, {inverse(half), "+", one, true}, {inverse(half), "+", two, false},
		{inverse(half), "*", two, true}, {one, "-", inverse(half), true}, {top, "*", inverse(half), true}, {top, "/", inverse(two), false}, {inverse(top), "+", inverse(top), true},
		{inverse(half), "-", inverse(half), true}, {inverse(power(4096)), "*", inverse(power(4095)), true}, {inverse(power(4096)), "*", inverse(power(4096)), false},
		{inverse(power(4096)), "+", power(4095), true}, {inverse(power(4096)), "+", power(4096), false},
	} {
		g.expect(t, api.CFloat, api.CFloat)
	}
}

func TestGreatUnary(t *testing.T) {
	top := most()
	for _, c := range []struct {
		op   string
		kind int
		r    *big.Rat
		want string
	}{
		{"-", api.CInt, top, minus(top).Num().String()},
		{"-", api.CFloat, minus(top), "float " + top.Num().String() + "/1"},
		{"+", api.CFloat, inverse(top), "float 1/" + top.Num().String()},
		{"^", api.CInt, plus(top, -1), minus(top).Num().String()},
		{"^", api.CInt, top, none},
		{"^", api.CInt, minus(top), plus(top, -1).Num().String()},
	} {
		if got := tell(constant.Unary(c.op, number(c.kind, c.r))); got != c.want {
			t.Errorf("P10.2: %s of %s: %s, not %s", c.op, brief(c.r.String()), brief(got), brief(c.want))
		}
	}
}

func TestGreatTexts(t *testing.T) {
	for _, c := range []struct {
		a, b int
		fits bool
	}{
		{api.MaxText, 0, true}, {0, api.MaxText, true}, {api.MaxText - 1, 1, true}, {api.MaxText, 1, false}, {1, api.MaxText, false},
		{api.MaxText / 2, api.MaxText / 2, true}, {api.MaxText / 2, api.MaxText/2 + 1, false}, {api.MaxText, api.MaxText, false},
	} {
		a, b := strings.Repeat("\xc3", c.a), strings.Repeat("b", c.b)
		want := none
		if c.fits {
			want = strconv.Quote(a + b)
		}
		if got := tell(constant.Binary("+", text(a), text(b))); got != want {
			t.Errorf("P10.2: texts of %d and %d bytes: %s", c.a, c.b, brief(got))
		}
	}
}
