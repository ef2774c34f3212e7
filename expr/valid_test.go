package expr_test

import (
	"strings"
	"testing"

	"lockorder/api"
	"lockorder/expr"
)

// expectValid tests whether e is valid, and that it has a text only if it is.
func expectValid(t *testing.T, e api.Expr, valid bool) {
	t.Helper()
	if got := expr.Valid(e); got != valid {
		t.Errorf("Valid(%.80v) = %v", e, got)
	}
	if got := expr.Format(e); (got != "") != valid {
		t.Errorf("Format(%.80v) = %.80q", e, got)
	}
}

// within returns examples of expressions that contain e.
func within(e api.Expr) []api.Expr {
	return []api.Expr{
		e, unary(api.OpNot, e), unary(api.OpNegate, unary(api.OpNegate, e)),
		binary(api.OpOr, e, a), binary(api.OpOr, a, e), binary(api.OpMultiply, binary(api.OpAdd, a, e), b), binary(api.OpLess, a, unary(api.OpNot, e)),
	}
}

func TestValidNames(t *testing.T) { // P2.3
	long := strings.Repeat("x", api.MaxName)
	for _, s := range []string{"a", "_", "Z9", "_0", "main", "iff", "If", long} {
		for _, e := range within(name(s)) {
			expectValid(t, e, true)
		}
	}
	for _, s := range []string{"", "1", "1a", " a", "a ", "a b", "a\n", "a//", "a;", "+", "(a)", "a.b", "\xc3\xa9", "a\x00", "$", long + "x", strings.Repeat("x", api.MaxBytes+1), strings.Repeat(" ", 15) + "a"} {
		for _, e := range within(name(s)) {
			expectValid(t, e, false)
		}
	}
	for _, s := range []string{"var", "mutex", "rmutex", "func", "lock", "unlock", "go", "if", "else", "while", "return"} {
		expectValid(t, name(s), false)
	}
}

func TestValidNumbers(t *testing.T) { // P2.3
	for _, n := range []int{0, 1, 1<<63 - 1} {
		for _, e := range within(number(n)) {
			expectValid(t, e, true)
		}
	}
	for _, n := range []int{-1, -1 << 63} {
		for _, e := range within(number(n)) {
			expectValid(t, e, false)
		}
	}
}

func TestValidFields(t *testing.T) { // P2.3: every Op with every number of Args, with and without Name and Num
	for op := -2; op < 25; op++ {
		arity := -1
		switch {
		case op == api.OpNumber || op == api.OpName:
			arity = 0
		case op == api.OpNegate || op == api.OpNot:
			arity = 1
		case op >= api.OpMultiply && op <= api.OpOr:
			arity = 2
		}
		for args := range 4 {
			for _, s := range []string{"", "a"} {
				for num := range 2 {
					e := api.Expr{Op: op, Num: num, Name: s, Args: []api.Expr{b, c, a}[:args]}
					want := args == arity && (s == "a") == (op == api.OpName) && (num == 0 || op == api.OpNumber)
					for _, x := range within(e) {
						expectValid(t, x, want)
					}
				}
			}
		}
	}
	for _, op := range []int{1 << 62, -1 << 63, 1<<63 - 1} {
		expectValid(t, api.Expr{Op: op, Args: []api.Expr{a, b}}, false)
	}
}

func TestEmptyArgs(t *testing.T) { // P2.3, R5: nil and empty Args are the same
	for _, e := range []api.Expr{{Op: api.OpName, Name: "a"}, {Op: api.OpNumber, Num: 3}} {
		e.Args = []api.Expr{}
		expectValid(t, e, true)
		expectValid(t, binary(api.OpAdd, e, e), true)
	}
}

// nest puts e into n of what wrap makes.
func nest(n int, e api.Expr, wrap func(api.Expr) api.Expr) api.Expr {
	for range n {
		e = wrap(e)
	}
	return e
}

func negate(e api.Expr) api.Expr { return unary(api.OpNegate, e) }

// onRight makes e the second Arg, where a sum is printed in parentheses.
func onRight(e api.Expr) api.Expr { return binary(api.OpAdd, a, e) }

// onLeft makes e the first Arg, where a sum is printed without parentheses.
func onLeft(e api.Expr) api.Expr { return binary(api.OpAdd, e, a) }

func TestHeight(t *testing.T) { // P2.3
	sum, product, minus := onLeft(b), binary(api.OpMultiply, a, b), negate(a)
	for _, x := range []struct {
		e    api.Expr
		want int
	}{
		{a, 0}, {number(7), 0}, {sum, 0}, {product, 0}, {minus, 1}, {negate(minus), 2}, {negate(sum), 2}, {negate(product), 2}, {unary(api.OpNot, minus), 2},
		{binary(api.OpMultiply, sum, a), 1}, {binary(api.OpMultiply, a, sum), 1}, {binary(api.OpMultiply, product, a), 0}, {binary(api.OpMultiply, a, product), 1}, {binary(api.OpMultiply, minus, minus), 1},
		{onLeft(sum), 0}, {onRight(sum), 1}, {onLeft(product), 0}, {onRight(product), 0}, {onRight(onRight(sum)), 2}, {onLeft(onRight(sum)), 1},
		{binary(api.OpOr, negate(minus), a), 2}, {binary(api.OpOr, a, negate(minus)), 2}, {binary(api.OpOr, negate(minus), minus), 2}, {binary(api.OpSubtract, sum, binary(api.OpSubtract, negate(minus), a)), 3},
		{binary(api.OpLess, a, binary(api.OpEqual, a, b)), 1}, {binary(api.OpAnd, binary(api.OpOr, a, b), binary(api.OpOr, a, minus)), 2},
		{nest(30, a, negate), 30}, {nest(1000, a, onRight), 999}, {nest(1000, a, onLeft), 0}, {nest(100, b, func(e api.Expr) api.Expr { return negate(onLeft(e)) }), 200},
	} {
		if got := expr.Height(x.e); got != x.want {
			t.Errorf("Height(%.80v) = %d; want %d", x.e, got, x.want)
		}
	}
}

func TestValidHeight(t *testing.T) { // P2.3: a Height of at most MaxNesting
	most := api.MaxNesting
	expectValid(t, nest(most, a, negate), true)
	expectValid(t, nest(most+1, a, negate), false)
	expectValid(t, nest(most+1, a, onRight), true)
	expectValid(t, nest(most+2, a, onRight), false)
	expectValid(t, nest(1000, a, onLeft), true)
	// A sign and a pair of parentheses around the sum.
	expectValid(t, negate(nest(most-1, a, onRight)), true)
	expectValid(t, negate(nest(most, a, onRight)), false)
	// Each of these has the height MaxNesting - 1.
	for _, e := range []api.Expr{nest(most-1, a, negate), nest(most, a, onRight)} {
		expectValid(t, binary(api.OpMultiply, a, onLeft(e)), true)
		expectValid(t, binary(api.OpMultiply, a, negate(onLeft(e))), false)
		expectValid(t, binary(api.OpMultiply, negate(onLeft(e)), a), false)
	}
}

func TestUnspecified(t *testing.T) { // R1: Height of what has other Ops or Args
	for op := -2; op < 25; op++ {
		for args := range 5 {
			e := api.Expr{Op: op, Num: -1, Name: "if", Args: []api.Expr{{}, {Op: op}, onRight(a), {Op: 99, Args: []api.Expr{a}}}[:args]}
			expr.Height(e)
			expr.Height(api.Expr{Op: op, Args: []api.Expr{e, e, e}})
		}
	}
	expr.Height(api.Expr{Op: -1 << 63, Args: []api.Expr{{Op: 1<<63 - 1}}})
}
