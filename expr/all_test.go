package expr_test

import (
	"math/rand"
	"reflect"
	"runtime/debug"
	"slices"
	"strings"
	"testing"

	"lockorder/api"
	"lockorder/expr"
	"lockorder/token"
)

// compareParse tests Parse against the reference, and that what it returns is valid.
func compareParse(t *testing.T, l []api.Token, at int) {
	t.Helper()
	e, n, errno := expr.Parse(l, at)
	wantN, wantErrno := referenceEnd(l, at)
	if n != wantN || errno != wantErrno {
		t.Fatalf("Parse(%q, %d) = %d, %d; want %d, %d", texts(l), at, n, errno, wantN, wantErrno)
	}
	want := api.Expr{}
	if errno == api.OK {
		want = referenceTree(l[at:n])
	}
	if !reflect.DeepEqual(e, want) {
		t.Fatalf("Parse(%q, %d) = %v; want %v", texts(l), at, e, want)
	}
	if expr.Valid(e) != (errno == api.OK) {
		t.Fatalf("Parse(%q, %d) returns %v, %d, but Valid is %v", texts(l), at, e, errno, expr.Valid(e))
	}
}

// compareText tests Valid, Height and Format of an expression of at most the allowed height against the reference, and that Parse leads back to it.
func compareText(t *testing.T, e api.Expr) {
	t.Helper()
	text, height := referenceText(e)
	if expr.Format(e) != text || expr.Height(e) != height || !expr.Valid(e) {
		t.Fatalf("%v: Format %q, Height %d, Valid %v; want %q, %d", e, expr.Format(e), expr.Height(e), expr.Valid(e), text, height)
	}
	l := lex(text)
	back, n, errno := expr.Parse(l, 0)
	if !reflect.DeepEqual(back, e) || n != len(l)-1 || errno != api.OK {
		t.Fatalf("Parse(%q) = %v, %d, %d; want %v", text, back, n, errno, e)
	}
}

func TestAllShortTokens(t *testing.T) { // P2.1, P2.2, P2.3: all sequences of up to five tokens
	alphabet := lex("a 1 + * - ! ( ) < && || ; if")
	var grow func(l []api.Token)
	grow = func(l []api.Token) {
		compareParse(t, append(slices.Clip(l), api.Token{Kind: api.TokenEnd}), 0)
		if len(l) == 5 {
			return
		}
		for _, x := range alphabet {
			grow(append(slices.Clip(l), x))
		}
	}
	grow(nil)
}

func TestRandomTokens(t *testing.T) { // P2.1, P2.2: long sequences, most of them with few errors
	r := rand.New(rand.NewSource(1))
	operands, operators := lex("a b 7 007 - ! (")[:7], lex("+ - * / % < <= > >= == != && || )")[:14]
	for range 30000 {
		var l []api.Token
		operand := true
		for range r.Intn(60) {
			from := operands
			if operand == (r.Intn(200) == 0) {
				from = operators
			}
			x := from[r.Intn(len(from))]
			l = append(l, x)
			operand = !isLeaf(x) && x.Text != ")"
		}
		l = append(l, api.Token{Kind: api.TokenEnd})
		compareParse(t, l, r.Intn(len(l)))
	}
}

// larger returns the expressions of l, and all with one operator and Args of l.
func larger(l []api.Expr) []api.Expr {
	out := slices.Clone(l)
	for _, x := range l {
		for op := api.OpNegate; op <= api.OpNot; op++ {
			out = append(out, unary(op, x))
		}
		for _, y := range l {
			for op := api.OpMultiply; op <= api.OpOr; op++ {
				out = append(out, binary(op, x, y))
			}
		}
	}
	return out
}

func TestAllSmallExpressions(t *testing.T) { // P2.3, P2.4, P2.5
	for _, e := range larger(larger([]api.Expr{a, number(7)})) {
		compareText(t, e)
	}
}

func TestRandomExpressions(t *testing.T) { // P2.3, P2.4, P2.5
	r := rand.New(rand.NewSource(2))
	var grow func(size int) api.Expr
	grow = func(size int) api.Expr {
		switch {
		case size == 0 && r.Intn(2) == 0:
			return number(r.Intn(1 << 62))
		case size == 0:
			return name([]string{"a", "_", "x1", "if_", "LOCK", "abcdefghijklmnop"}[r.Intn(6)])
		case r.Intn(4) == 0:
			return unary(api.OpNegate+r.Intn(2), grow(size-1))
		}
		left := r.Intn(size)
		return binary(api.OpMultiply+r.Intn(13), grow(left), grow(size-1-left))
	}
	for range 20000 {
		e := grow(r.Intn(40))
		if _, height := referenceText(e); height <= api.MaxNesting {
			compareText(t, e)
		} else {
			expectValid(t, e, false)
		}
	}
}

func TestMostTokens(t *testing.T) { // P2.5: its bound
	e := negate(nest(api.MaxTokens/2-2, a, onLeft)) // 2 parentheses, the sign, and an odd number for the sum
	l := lex(expr.Format(e))
	if len(l)-1 != api.MaxTokens {
		t.Fatalf("the text has %d tokens", len(l)-1)
	}
	if back, _, errno := expr.Parse(l, 0); errno != api.OK || !reflect.DeepEqual(back, e) {
		t.Error("Parse does not lead back")
	}
	if _, _, errno := token.Lex([]byte(expr.Format(onLeft(e)))); errno != api.ErrLimit {
		t.Errorf("Lex of more tokens = %d", errno)
	}
}

// TestDeep has expressions that are far deeper than the stack of calls may be.
func TestDeep(t *testing.T) { // R1; P2.2: any number of tokens
	defer debug.SetMaxStack(debug.SetMaxStack(1 << 20))
	const n = 300000
	tokens := append(slices.Repeat(lex("a +")[:2], n), lex("a")...)
	sum, end, errno := expr.Parse(tokens, 0)
	if end != 2*n+1 || errno != api.OK {
		t.Fatalf("Parse = %d, %d", end, errno)
	}
	if !expr.Valid(sum) || expr.Height(sum) != 0 || expr.Format(sum) != strings.Repeat("a + ", n)+"a" {
		t.Error("the sum", expr.Valid(sum), expr.Height(sum), len(expr.Format(sum)))
	}
	for _, x := range []struct {
		wrap func(api.Expr) api.Expr
		want int
	}{{negate, n}, {onRight, n - 1}} {
		e := nest(n, a, x.wrap)
		if expr.Valid(e) || expr.Height(e) != x.want || expr.Format(e) != "" {
			t.Error("deep", expr.Valid(e), expr.Height(e))
		}
	}
	expectEnd(t, append(slices.Repeat(lex("(")[:1], n), lex("a")...), 0, api.MaxNesting, api.ErrLimit)
}

// scribble overwrites all of an expression.
func scribble(e api.Expr) {
	for i := range e.Args {
		scribble(e.Args[i])
		e.Args[i] = api.Expr{Op: 99}
	}
}

func TestMemory(t *testing.T) { // R2, R3
	const text = "-(a + 1) * b || !c < (a - b)"
	l := lex(text)
	first, _, _ := expr.Parse(l, 0)
	second, _, _ := expr.Parse(l, 0)
	if !reflect.DeepEqual(l, lex(text)) {
		t.Error("Parse changes the tokens")
	}
	want := mustParse(t, text)
	if expr.Format(first) == "" || expr.Height(first) != 2 || !reflect.DeepEqual(first, want) {
		t.Error("the expression is changed", first)
	}
	scribble(first)
	clear(l)
	if !reflect.DeepEqual(second, want) {
		t.Error("memory is shared", second)
	}
}

func FuzzParse(f *testing.F) { // P2.1 to P2.5
	f.Add("a + b * -1 < 2", 0)
	f.Add("x = (a - !(b || c)) % 7;", 2)
	f.Fuzz(func(t *testing.T, s string, at int) {
		l, _, errno := token.Lex([]byte(s))
		if errno != api.OK {
			return
		}
		if at < 0 || at >= len(l) {
			expectEnd(t, l, at, at, api.ErrSyntax)
			return
		}
		compareParse(t, l, at)
		if e, _, errno := expr.Parse(l, at); errno == api.OK {
			compareText(t, e)
		}
	})
}
