package value

import "lockorder/api"

// step is an expression of which some Args have been evaluated, from the left.
type step struct {
	e     *api.Expr
	known int
	args  operands
}

// decided reports whether no further Arg has to be evaluated.
func (s *step) decided() bool {
	if s.known == 1 && (s.e.Op == api.OpAnd && s.args.left == 0 || s.e.Op == api.OpOr && s.args.left != 0) {
		return true
	}
	return s.known == len(s.e.Args)
}

// add adds the value of the next Arg. Those behind the second one belong to no operator.
func (s *step) add(value int) {
	switch s.known {
	case 0:
		s.args.left = value
	case 1:
		s.args.right = value
	}
	s.known++
}

// value returns the value of an expression that is decided, or a fault.
func (s *step) value(globals, locals []int) (int, int) {
	switch s.e.Op {
	case api.OpNumber:
		return s.e.Num, 0
	case api.OpLocal:
		return variable(locals, s.e.Num), 0
	case api.OpGlobal:
		return variable(globals, s.e.Num), 0
	case api.OpDivide, api.OpRemainder:
		if s.args.right == 0 {
			return 0, api.FaultZero
		}
	}
	return operation(s.e.Op)(s.args), 0
}

// variable returns the value of a variable, or 0 if there is none with this number.
func variable(values []int, number int) int {
	if number < 0 || number >= len(values) {
		return 0
	}
	return values[number]
}
