package expr_test

import (
	"strconv"

	"lockorder/api"
	"lockorder/token"
)

// rows is the table of P2.1, from the weakest binary operators to the strongest ones.
var rows = [][]string{{"||"}, {"&&"}, {"==", "!=", "<", "<=", ">", ">="}, {"+", "-"}, {"*", "/", "%"}}

var binaryOps = map[string]int{
	"||": api.OpOr, "&&": api.OpAnd,
	"==": api.OpEqual, "!=": api.OpNotEqual, "<": api.OpLess, "<=": api.OpLessEqual, ">": api.OpGreater, ">=": api.OpGreaterEqual,
	"+": api.OpAdd, "-": api.OpSubtract,
	"*": api.OpMultiply, "/": api.OpDivide, "%": api.OpRemainder,
}

var unaryOps = map[string]int{"-": api.OpNegate, "!": api.OpNot}

// row returns the index of the row of a binary sign.
func row(sign string) int {
	for i, l := range rows {
		for _, s := range l {
			if s == sign {
				return i
			}
		}
	}
	return -1
}

func isLeaf(t api.Token) bool { return t.Kind == api.TokenName || t.Kind == api.TokenNumber }

// referenceEnd is P2.2 without the expression: the index and the error of Parse, from a list of what is open.
func referenceEnd(l []api.Token, at int) (int, api.Errno) {
	var open []string
	operand := true // an operand must follow
	for ; ; at++ {
		t := l[at]
		switch {
		case operand && isLeaf(t):
			operand = false
		case operand && (t.Text == "(" || unaryOps[t.Text] != 0):
			if len(open) >= api.MaxNesting {
				return at, api.ErrLimit
			}
			open = append(open, t.Text)
		case operand:
			return at, api.ErrSyntax
		case binaryOps[t.Text] != 0:
			operand = true
		case len(open) == 0:
			return at, api.OK
		case t.Text == ")":
			open = open[:len(open)-1]
		default:
			return at, api.ErrSyntax
		}
		for !operand && len(open) > 0 && open[len(open)-1] != "(" {
			open = open[:len(open)-1]
		}
	}
}

// referenceTree is the expression of tokens that are one: it is divided at the last one of its weakest binary operators.
func referenceTree(l []api.Token) api.Expr {
	split, depth := -1, 0
	for i, t := range l {
		switch {
		case t.Text == "(":
			depth++
		case t.Text == ")":
			depth--
		case depth == 0 && i > 0 && row(t.Text) >= 0 && (isLeaf(l[i-1]) || l[i-1].Text == ")"):
			if split < 0 || row(t.Text) <= row(l[split].Text) {
				split = i
			}
		}
	}
	switch first := l[0]; {
	case split >= 0:
		return binary(binaryOps[l[split].Text], referenceTree(l[:split]), referenceTree(l[split+1:]))
	case unaryOps[first.Text] != 0:
		return unary(unaryOps[first.Text], referenceTree(l[1:]))
	case first.Text == "(":
		return referenceTree(l[1 : len(l)-1])
	case first.Kind == api.TokenNumber:
		return number(first.Num)
	default:
		return name(first.Text)
	}
}

func name(s string) api.Expr { return api.Expr{Op: api.OpName, Name: s} }

func number(n int) api.Expr { return api.Expr{Op: api.OpNumber, Num: n} }

func unary(op int, arg api.Expr) api.Expr { return api.Expr{Op: op, Args: []api.Expr{arg}} }

func binary(op int, left, right api.Expr) api.Expr {
	return api.Expr{Op: op, Args: []api.Expr{left, right}}
}

// signOf returns the sign of an operator and its strength, which is that of operands for a number or a name.
func signOf(op int) (string, int) {
	for s, o := range binaryOps {
		if o == op {
			return s, row(s)
		}
	}
	for s, o := range unaryOps {
		if o == op {
			return s, len(rows)
		}
	}
	return "", len(rows) + 1
}

// referenceText is P2.4 and P2.3 as they are written: the text and the height of a valid expression.
func referenceText(e api.Expr) (string, int) {
	sign, strength := signOf(e.Op)
	arg := func(i int) (string, int) {
		text, height := referenceText(e.Args[i])
		_, inner := signOf(e.Args[i].Op)
		if inner < strength || inner == strength && len(e.Args) == 2 && i == 1 {
			return "(" + text + ")", height + 1
		}
		return text, height
	}
	switch {
	case e.Op == api.OpNumber:
		return strconv.Itoa(e.Num), 0
	case e.Op == api.OpName:
		return e.Name, 0
	case len(e.Args) == 1:
		text, height := arg(0)
		return sign + text, height + 1
	}
	left, leftHeight := arg(0)
	right, rightHeight := arg(1)
	return left + " " + sign + " " + right, max(leftHeight, rightHeight)
}

// lex returns the tokens of a text, with their end.
func lex(s string) []api.Token {
	l, _, errno := token.Lex([]byte(s))
	if errno != api.OK {
		panic("no tokens: " + s)
	}
	return l
}
