package expr

import "lockorder/api"

// weakest is the strength of the weakest operator.
const weakest = 1

// signs has the sign of every operator.
var signs = [...]string{
	api.OpNegate:       "-",
	api.OpNot:          "!",
	api.OpMultiply:     "*",
	api.OpDivide:       "/",
	api.OpRemainder:    "%",
	api.OpAdd:          "+",
	api.OpSubtract:     "-",
	api.OpLess:         "<",
	api.OpLessEqual:    "<=",
	api.OpGreater:      ">",
	api.OpGreaterEqual: ">=",
	api.OpEqual:        "==",
	api.OpNotEqual:     "!=",
	api.OpAnd:          "&&",
	api.OpOr:           "||",
}

// strength returns a greater number for a stronger operator: from weakest on for OpOr and those above it, and 0 for a number that is no Op of a valid expression.
func strength(op int) int {
	n := 0
	// From the strongest to the weakest: each row is stronger by 1 than the next one.
	switch op {
	case api.OpNumber, api.OpName:
		n++
		fallthrough
	case api.OpNegate, api.OpNot:
		n++
		fallthrough
	case api.OpMultiply, api.OpDivide, api.OpRemainder:
		n++
		fallthrough
	case api.OpAdd, api.OpSubtract:
		n++
		fallthrough
	case api.OpEqual, api.OpNotEqual, api.OpLess, api.OpLessEqual, api.OpGreater, api.OpGreaterEqual:
		n++
		fallthrough
	case api.OpAnd:
		n++
		fallthrough
	case api.OpOr:
		n++
	}
	return n
}

func isUnary(op int) bool { return op == api.OpNegate || op == api.OpNot }

func isBinary(op int) bool { return api.OpMultiply <= op && op <= api.OpOr }

// unaryOp returns the Op of the unary operator with this sign, or 0.
func unaryOp(sign string) int { return find(sign, api.OpNegate, api.OpNot) }

// binaryOp returns the Op of the binary operator with this sign, or 0.
func binaryOp(sign string) int { return find(sign, api.OpMultiply, api.OpOr) }

// find returns the Op from first to last that has this sign, or 0. The range tells the two operators with the sign - apart.
func find(sign string, first, last int) int {
	for op := first; op <= last; op++ {
		if signs[op] == sign {
			return op
		}
	}
	return 0
}

// inParentheses reports whether the Arg i of e is printed in parentheses.
func inParentheses(e api.Expr, i int) bool {
	outer, inner := strength(e.Op), strength(e.Args[i].Op)
	return inner < outer || inner == outer && i == 1
}
