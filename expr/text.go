package expr

import (
	"slices"
	"strconv"
	"strings"

	"lockorder/api"
)

// join returns the text of a valid expression.
func join(e api.Expr) string {
	// The texts are collected from the last one to the first, since long expressions are deep on the left: so few pieces are pending at a time.
	var texts []string
	pending := []piece{{e: e}}
	for len(pending) > 0 {
		last := pending[len(pending)-1]
		pending = pending[:len(pending)-1]
		if last.e.Op == 0 {
			texts = append(texts, last.text)
		} else {
			pending = append(pending, pieces(last.e)...)
		}
	}
	slices.Reverse(texts)
	return strings.Join(texts, "")
}

// piece is a part of the text of an expression: an expression, or a text if e has the Op 0.
type piece struct {
	text string
	e    api.Expr
}

// pieces divides the text of a valid expression.
func pieces(e api.Expr) []piece {
	switch {
	case e.Op == api.OpNumber:
		return []piece{{text: strconv.Itoa(e.Num)}}
	case e.Op == api.OpName:
		return []piece{{text: e.Name}}
	case isUnary(e.Op):
		return append([]piece{{text: signs[e.Op]}}, argument(e, 0)...)
	}
	l := append(argument(e, 0), piece{text: " " + signs[e.Op] + " "})
	return append(l, argument(e, 1)...)
}

// argument returns the pieces of the Arg i of e.
func argument(e api.Expr, i int) []piece {
	arg := piece{e: e.Args[i]}
	if inParentheses(e, i) {
		return []piece{{text: "("}, arg, {text: ")"}}
	}
	return []piece{arg}
}
