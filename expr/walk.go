package expr

import (
	"lockorder/api"
	"lockorder/token"
)

// nested is an expression with the number of pairs of parentheses and of unary operators around it.
type nested struct {
	e      api.Expr
	around int
}

// walk calls visit for e and for every expression in it, until a call returns false, and reports whether none did. It keeps a list of its own and does not call itself, since an expression may be deeper than the stack of calls.
func walk(e api.Expr, visit func(e api.Expr, around int) bool) bool {
	pending := []nested{{e: e}}
	for len(pending) > 0 {
		last := pending[len(pending)-1]
		pending = pending[:len(pending)-1]
		if !visit(last.e, last.around) {
			return false
		}
		for i, arg := range last.e.Args {
			pending = append(pending, nested{arg, last.around + added(last.e, i)})
		}
	}
	return true
}

// added returns the number of pairs of parentheses and of unary operators that e itself puts around its Arg i.
func added(e api.Expr, i int) int {
	n := 0
	if isUnary(e.Op) {
		n++
	}
	if inParentheses(e, i) {
		n++
	}
	return n
}

// wellFormed reports whether e has the fields that its Op asks for, whatever its Args are.
func wellFormed(e api.Expr) bool {
	switch {
	case e.Op == api.OpNumber:
		return e.Num >= 0 && e.Name == "" && len(e.Args) == 0
	case e.Op == api.OpName:
		return e.Num == 0 && isName(e.Name) && len(e.Args) == 0
	case isUnary(e.Op):
		return e.Num == 0 && e.Name == "" && len(e.Args) == 1
	case isBinary(e.Op):
		return e.Num == 0 && e.Name == "" && len(e.Args) == 2
	}
	return false
}

// isName reports whether s is a name that is not too long and not reserved.
func isName(s string) bool {
	l, _, errno := token.Lex([]byte(s))
	return errno == api.OK && l[0].Kind == api.TokenName && l[0].Text == s
}
