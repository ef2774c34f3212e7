package value_test

import (
	"math/big"
	"math/rand"

	"lockorder/api"
)

func number(n int) api.Expr { return api.Expr{Op: api.OpNumber, Num: n} }

func local(n int) api.Expr { return api.Expr{Op: api.OpLocal, Num: n} }

func global(n int) api.Expr { return api.Expr{Op: api.OpGlobal, Num: n} }

func unary(op int, arg api.Expr) api.Expr { return api.Expr{Op: op, Args: []api.Expr{arg}} }

func binary(op int, left, right api.Expr) api.Expr {
	return api.Expr{Op: op, Args: []api.Expr{left, right}}
}

// wrap returns the number of 64 bits that is congruent to n modulo 2^64.
func wrap(n *big.Int) int {
	modulus := new(big.Int).Lsh(big.NewInt(1), 64)
	n = new(big.Int).Mod(n, modulus)
	if n.Bit(63) == 1 {
		n.Sub(n, modulus)
	}
	return int(n.Int64())
}

func one(b bool) int {
	if b {
		return 1
	}
	return 0
}

// reference is P7.1, with numbers of any size; false stands for a fault.
func reference(e api.Expr, globals, locals []int) (int, bool) {
	switch e.Op {
	case api.OpNumber:
		return e.Num, true
	case api.OpLocal:
		return locals[e.Num], true
	case api.OpGlobal:
		return globals[e.Num], true
	}
	left, ok := reference(e.Args[0], globals, locals)
	switch {
	case !ok:
		return 0, false
	case e.Op == api.OpNot:
		return one(left == 0), true
	case e.Op == api.OpNegate:
		return wrap(new(big.Int).Neg(big.NewInt(int64(left)))), true
	case e.Op == api.OpAnd && left == 0:
		return 0, true
	case e.Op == api.OpOr && left != 0:
		return 1, true
	}
	right, ok := reference(e.Args[1], globals, locals)
	if !ok || right == 0 && (e.Op == api.OpDivide || e.Op == api.OpRemainder) {
		return 0, false
	}
	return calculate(e.Op, big.NewInt(int64(left)), big.NewInt(int64(right))), true
}

// calculate returns the value of a binary operator for the values of its Args.
func calculate(op int, left, right *big.Int) int {
	result, order := new(big.Int), left.Cmp(right)
	switch op {
	case api.OpMultiply:
		result.Mul(left, right)
	case api.OpDivide:
		result.Quo(left, right)
	case api.OpRemainder:
		result.Rem(left, right)
	case api.OpAdd:
		result.Add(left, right)
	case api.OpSubtract:
		result.Sub(left, right)
	case api.OpAnd, api.OpOr:
		return one(right.Sign() != 0)
	default:
		return one(map[int]bool{api.OpLess: order < 0, api.OpLessEqual: order <= 0, api.OpGreater: order > 0, api.OpGreaterEqual: order >= 0, api.OpEqual: order == 0, api.OpNotEqual: order != 0}[op])
	}
	return wrap(result)
}

// chance returns a number that is often small or at an end of the range.
func chance(r *rand.Rand) int {
	n := int(r.Uint64() >> r.Intn(64))
	switch r.Intn(6) {
	case 0:
		return least + r.Intn(3)
	case 1:
		return most - r.Intn(3)
	case 2:
		return -n
	case 3:
		return n
	}
	return r.Intn(7) - 3
}

// expression makes an expression by chance, with up to size operators, for the given numbers of variables.
func expression(r *rand.Rand, size, globals, locals int) api.Expr {
	if size > 0 {
		op, left := api.OpNegate+r.Intn(api.OpOr-api.OpNegate+1), r.Intn(size)
		if op == api.OpNegate || op == api.OpNot {
			return unary(op, expression(r, size-1, globals, locals))
		}
		return binary(op, expression(r, left, globals, locals), expression(r, size-1-left, globals, locals))
	}
	switch n := r.Intn(3); {
	case n == 0 && globals > 0:
		return global(r.Intn(globals))
	case n == 1 && locals > 0:
		return local(r.Intn(locals))
	}
	return number(chance(r))
}
