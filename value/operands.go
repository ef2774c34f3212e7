package value

import "lockorder/api"

// operands are the values of the Args of an operator. The left one is that of a unary operator, and the right one is 0 if it has not been evaluated.
type operands struct{ left, right int }

// operation returns what an operator does with its operands; a divisor must not be 0.
func operation(op int) func(operands) int {
	switch op {
	case api.OpNegate:
		return operands.negate
	case api.OpNot:
		return operands.not
	case api.OpMultiply:
		return operands.multiply
	case api.OpDivide:
		return operands.divide
	case api.OpRemainder:
		return operands.remainder
	case api.OpAdd:
		return operands.add
	case api.OpSubtract:
		return operands.subtract
	case api.OpLess:
		return operands.less
	case api.OpLessEqual:
		return operands.lessEqual
	case api.OpGreater:
		return operands.greater
	case api.OpGreaterEqual:
		return operands.greaterEqual
	case api.OpEqual:
		return operands.equal
	case api.OpNotEqual:
		return operands.notEqual
	case api.OpAnd:
		return operands.and
	case api.OpOr:
		return operands.or
	}
	return operands.nothing
}

func (o operands) negate() int       { return -o.left }
func (o operands) not() int          { return truth(o.left == 0) }
func (o operands) multiply() int     { return o.left * o.right }
func (o operands) divide() int       { return o.left / o.right }
func (o operands) remainder() int    { return o.left % o.right }
func (o operands) add() int          { return o.left + o.right }
func (o operands) subtract() int     { return o.left - o.right }
func (o operands) less() int         { return truth(o.left < o.right) }
func (o operands) lessEqual() int    { return truth(o.left <= o.right) }
func (o operands) greater() int      { return truth(o.left > o.right) }
func (o operands) greaterEqual() int { return truth(o.left >= o.right) }
func (o operands) equal() int        { return truth(o.left == o.right) }
func (o operands) notEqual() int     { return truth(o.left != o.right) }
func (o operands) and() int          { return truth(o.left != 0 && o.right != 0) }
func (o operands) or() int           { return truth(o.left != 0 || o.right != 0) }

// nothing is the value of an expression with an Op that has none.
func (o operands) nothing() int { return 0 }

// truth returns the number that stands for a truth value.
func truth(b bool) int {
	if b {
		return 1
	}
	return 0
}
