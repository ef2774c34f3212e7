package expr_test

import (
	"reflect"
	"strings"
	"testing"

	"lockorder/api"
	"lockorder/expr"
)

var a, b, c = name("a"), name("b"), name("c")

// mustParse returns the expression of a text that is one as a whole.
func mustParse(t *testing.T, s string) api.Expr {
	t.Helper()
	l := lex(s)
	e, n, errno := expr.Parse(l, 0)
	if errno != api.OK || n != len(l)-1 {
		t.Fatalf("Parse(%.60q) = %d, %d; want %d, OK", s, n, errno, len(l)-1)
	}
	return e
}

// expectTree tests that a text has this expression.
func expectTree(t *testing.T, s string, want api.Expr) {
	t.Helper()
	if e := mustParse(t, s); !reflect.DeepEqual(e, want) {
		t.Errorf("Parse(%q) = %v; want %v", s, e, want)
	}
}

// expectEnd tests the index and the error of Parse, and that there is no expression with an error.
func expectEnd(t *testing.T, l []api.Token, at, n int, errno api.Errno) {
	t.Helper()
	e, gotN, got := expr.Parse(l, at)
	if gotN != n || got != errno {
		t.Errorf("Parse(%.60q, %d) = %d, %d; want %d, %d", texts(l), at, gotN, got, n, errno)
	}
	if got != api.OK && !reflect.DeepEqual(e, api.Expr{}) {
		t.Errorf("Parse(%.60q, %d) has an error and the expression %v", texts(l), at, e)
	}
}

func texts(l []api.Token) []string {
	var out []string
	for _, x := range l {
		out = append(out, x.Text)
	}
	return out
}

func TestOperands(t *testing.T) { // P2.1
	expectTree(t, "a", a)
	expectTree(t, "_x9", name("_x9"))
	expectTree(t, "0", number(0))
	expectTree(t, "007", number(7))
	expectTree(t, "9223372036854775807", number(1<<63-1))
	expectTree(t, "(a)", a)
	expectTree(t, "((1))", number(1))
}

func TestUnaryOperators(t *testing.T) { // P2.1
	for s, op := range unaryOps {
		expectTree(t, s+"a", unary(op, a))
		expectTree(t, s+"1", unary(op, number(1)))
		expectTree(t, s+"(a)", unary(op, a))
		expectTree(t, s+"(a+b)", unary(op, binary(api.OpAdd, a, b)))
		for other, inner := range unaryOps {
			expectTree(t, s+other+"a", unary(op, unary(inner, a)))
		}
		for sign, outer := range binaryOps {
			expectTree(t, s+"a"+sign+"b", binary(outer, unary(op, a), b))
			expectTree(t, "a"+sign+" "+s+"b", binary(outer, a, unary(op, b)))
		}
	}
}

func TestTwoOperators(t *testing.T) { // P2.1: strength, and association to the left
	for first, op1 := range binaryOps {
		expectTree(t, "a"+first+"b", binary(op1, a, b))
		for second, op2 := range binaryOps {
			left := binary(op2, binary(op1, a, b), c)
			right := binary(op1, a, binary(op2, b, c))
			if row(first) >= row(second) {
				expectTree(t, "a"+first+"b"+second+"c", left)
			} else {
				expectTree(t, "a"+first+"b"+second+"c", right)
			}
			expectTree(t, "(a"+first+"b)"+second+"c", left)
			expectTree(t, "a"+first+"(b"+second+"c)", right)
		}
	}
}

func TestExamples(t *testing.T) { // P2.1, P2.4: those of the chapter
	minus := unary(api.OpNegate, number(1))
	expectTree(t, "a + b * -1 < 2", binary(api.OpLess, binary(api.OpAdd, a, binary(api.OpMultiply, b, minus)), number(2)))
	expectTree(t, "a - (b - c)", binary(api.OpSubtract, a, binary(api.OpSubtract, b, c)))
	if s := expr.Format(mustParse(t, "a - (b - c)")); s != "a - (b - c)" {
		t.Errorf("Format = %q", s)
	}
}

func TestLongest(t *testing.T) { // P2.2: where an expression ends, and where it may begin
	l := lex("x = a + b * 2 ; c")
	for at, want := range map[int]int{0: 1, 2: 7, 4: 7, 6: 7, 8: 9} {
		expectEnd(t, l, at, want, api.OK)
	}
	for _, at := range []int{1, 3, 5, 7, 9} {
		expectEnd(t, l, at, at, api.ErrSyntax)
	}
	for _, s := range []string{"b", "1", "!", "=", ")", "(", ";", ",", "{", "}", "[", "]", "if", "lock"} {
		expectEnd(t, lex("a "+s+" c"), 0, 1, api.OK)
		expectEnd(t, lex("(a) "+s+" c"), 0, 3, api.OK)
		expectEnd(t, lex("-a "+s+" c"), 0, 2, api.OK)
		expectEnd(t, lex("a + b "+s+" c"), 0, 3, api.OK)
	}
	expectEnd(t, lex("a -b"), 0, 3, api.OK)
	expectEnd(t, lex("a"), 0, 1, api.OK)
}

func TestNoOperand(t *testing.T) { // P2.2
	expectEnd(t, lex(""), 0, 0, api.ErrSyntax)
	for _, s := range []string{")", "=", "*", "&&", "<=", ";", ",", "{", "}", "[", "]", "if", "mutex", "else"} {
		expectEnd(t, lex(s+" a"), 0, 0, api.ErrSyntax)
		expectEnd(t, lex("a + "+s+" b"), 0, 2, api.ErrSyntax)
		expectEnd(t, lex("a * b || "+s), 0, 4, api.ErrSyntax)
		expectEnd(t, lex("- "+s), 0, 1, api.ErrSyntax)
		expectEnd(t, lex("a + ! "+s), 0, 3, api.ErrSyntax)
		expectEnd(t, lex("( "+s), 0, 1, api.ErrSyntax)
		expectEnd(t, lex("a ; - "+s+" b"), 2, 3, api.ErrSyntax)
	}
	for s, n := range map[string]int{"a +": 2, "-": 1, "!-": 2, "(": 1, "()": 1, "(a +)": 3, "a < < b": 2, "a - * b": 2, "a + b -": 4} {
		expectEnd(t, lex(s), 0, n, api.ErrSyntax)
	}
}

func TestNoClosingParenthesis(t *testing.T) { // P2.2
	for s, n := range map[string]int{"(a": 2, "(a b)": 2, "(a + b": 4, "((a)": 4, "(a;)": 2, "(a = b)": 2, "(a ! b)": 2, "(a[1])": 2, "-(a": 3, "(a + (b c))": 5, "(1 if": 2} {
		expectEnd(t, lex(s), 0, n, api.ErrSyntax)
	}
}

func TestFirstError(t *testing.T) { // P2.2: the first one from the left
	expectEnd(t, lex("(a + * b"), 0, 3, api.ErrSyntax)
	expectEnd(t, lex("(a b) + *"), 0, 2, api.ErrSyntax)
	deep := strings.Repeat("(", api.MaxNesting)
	expectEnd(t, lex(deep+"- *"), 0, api.MaxNesting, api.ErrLimit)
	expectEnd(t, lex(deep+"* -"), 0, api.MaxNesting, api.ErrSyntax)
	expectEnd(t, lex(deep+"a (("), 0, api.MaxNesting+1, api.ErrSyntax)
	expectEnd(t, lex("a + * "+deep+"("), 0, 2, api.ErrSyntax)
}

func TestNestingLimit(t *testing.T) { // P2.2
	for _, open := range []string{"(", "-", "!"} {
		for _, last := range []string{"(", "-", "!"} {
			within := strings.Repeat(open, api.MaxNesting-1) + last + "a"
			within += strings.Repeat(")", strings.Count(within, "("))
			mustParse(t, within)
			beyond := strings.Repeat(open, api.MaxNesting) + last + "a"
			expectEnd(t, lex(beyond), 0, api.MaxNesting, api.ErrLimit)
			expectEnd(t, lex("b + "+beyond), 0, 2+api.MaxNesting, api.ErrLimit)
			expectEnd(t, lex("b ; "+beyond), 2, 2+api.MaxNesting, api.ErrLimit)
		}
	}
	mixed := strings.Repeat("-(", api.MaxNesting/2)
	mustParse(t, mixed+"a"+strings.Repeat(")", api.MaxNesting/2))
	expectEnd(t, lex(mixed+"!a"), 0, api.MaxNesting, api.ErrLimit)
}

func TestNestingEnds(t *testing.T) { // P2.2: what is completed does not count, nor what is outside of the call
	most := strings.Repeat("(", api.MaxNesting) + "a" + strings.Repeat(")", api.MaxNesting)
	signs := strings.Repeat("!", api.MaxNesting) + "a"
	for _, first := range []string{most, signs, "-(a)", "-a", "(a)"} {
		for _, second := range []string{most, signs} {
			mustParse(t, first+" * "+second)
			mustParse(t, first+" || b < "+second)
		}
	}
	inner := strings.Repeat("(", api.MaxNesting-1) + "-a + -b"
	mustParse(t, inner+strings.Repeat(")", api.MaxNesting-1))
	expectEnd(t, lex(inner+" + --c"), 0, api.MaxNesting+6, api.ErrLimit)
	expectEnd(t, lex("("+most+")"), 0, api.MaxNesting, api.ErrLimit)
	expectEnd(t, lex("("+most+")"), 1, 1+2*api.MaxNesting+1, api.OK)
}

func TestNoSuchToken(t *testing.T) { // P2.2
	l := lex("a + b")
	for _, at := range []int{-1, -1 << 63, 4, 5, 1<<63 - 1} {
		expectEnd(t, l, at, at, api.ErrSyntax)
		expectEnd(t, nil, at, at, api.ErrSyntax)
	}
	expectEnd(t, l, 3, 3, api.ErrSyntax)
	expectEnd(t, nil, 0, 0, api.ErrSyntax)
	expectEnd(t, []api.Token{}, 0, 0, api.ErrSyntax)
	for at := range 3 {
		expectEnd(t, l[:3], at, at, api.ErrSyntax)
	}
}

func TestAnyTokens(t *testing.T) { // P2.2, R1: tokens in any order, and tokens that Lex never returns
	end := api.Token{Kind: api.TokenEnd}
	sign := func(s string) api.Token { return api.Token{Kind: api.TokenSign, Text: s} }
	x := api.Token{Kind: api.TokenName, Text: "x"}
	expectEnd(t, []api.Token{x, sign("+"), end, x, end}, 0, 2, api.ErrSyntax)
	expectEnd(t, []api.Token{x, end, sign("+"), x, end}, 0, 1, api.OK)
	expectEnd(t, []api.Token{sign("("), x, end, sign(")"), end}, 0, 2, api.ErrSyntax)
	expectEnd(t, []api.Token{end, x, end}, 0, 0, api.ErrSyntax)
	expectEnd(t, []api.Token{end, x, end}, 1, 2, api.OK)
	for kind := -1; kind < 9; kind++ {
		for _, s := range []string{"", "(", ")", "-", "+", "\xff"} {
			strange := api.Token{Kind: kind, Text: s, Num: -5, Pos: -7}
			expr.Parse([]api.Token{strange, strange, {Kind: api.TokenEnd, Text: s}}, 0)
			expr.Parse([]api.Token{x, strange, {Kind: api.TokenEnd, Text: s}}, 0)
		}
	}
}

func TestFormat(t *testing.T) { // P2.4
	for s, want := range map[string]string{
		"a": "a", "((a))": "a", "0010": "10", "9223372036854775807": "9223372036854775807",
		"a-b-c": "a - b - c", "(a-b)-c": "a - b - c", "a-(b-c)": "a - (b - c)", "a-(b+c)": "a - (b + c)", "a+(b+c)": "a + (b + c)",
		"(a+b)*c": "(a + b) * c", "a*(b+c)": "a * (b + c)", "a+(b*c)": "a + b * c", "(a*b)+c": "a * b + c", "a%(b*c)": "a % (b * c)",
		"-a": "-a", "- -a": "--a", "-(-a)": "--a", "!(!a)": "!!a", "-(!a)": "-!a", "-(a*b)": "-(a * b)", "(-a)*b": "-a * b", "-a*b": "-a * b", "a- -b": "a - -b", "!(a)": "!a", "-(1)": "-1",
		"a||(b||c)": "a || (b || c)", "(a&&b)||c": "a && b || c", "a&&(b||c)": "a && (b || c)",
		"a<(b<c)": "a < (b < c)", "(a<b)<c": "a < b < c", "a==(b!=c)": "a == (b != c)", "(a>=b)>c": "a >= b > c",
		"((a+b)*((c)))/-(a||b)": "(a + b) * c / -(a || b)",
	} {
		if got := expr.Format(mustParse(t, s)); got != want {
			t.Errorf("Format of %q = %q; want %q", s, got, want)
		}
	}
}
