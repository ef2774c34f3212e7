package lower

import "lockorder/api"

// names has the numbers by which the names of a function are replaced. A name is looked up only where it is visible, so those that are not may stay.
type names struct {
	declared map[string]int // global variables, mutexes and functions
	locals   map[string]int // integer parameters and the variables of StmtVar
	locks    map[string]int // mutex parameters
	count    int            // of local variables, more than there are in locals if blocks declare the same name
}

func newNames(declared map[string]int) names {
	return names{declared: declared, locals: map[string]int{}, locks: map[string]int{}}
}

// local declares the next local variable and returns its number. It takes the place of a variable with the same name, which cannot be visible any more.
func (n *names) local(name string) int {
	number := n.count
	n.locals[name] = number
	n.count++
	return number
}

// lock declares the next mutex parameter.
func (n *names) lock(name string) { n.locks[name] = len(n.locks) }

// variable returns the number of a variable, and whether it is a global one.
func (n *names) variable(name string) (int, bool) {
	if number, ok := n.locals[name]; ok {
		return number, false
	}
	return n.declared[name], true
}

// place returns the Place of a reference.
func (n *names) place(r api.Ref) api.Place {
	number, param := n.locks[r.Name]
	if !param {
		number = n.declared[r.Name]
	}
	return api.Place{Param: param, Index: number, At: n.expressions(r.Index)}
}

// expression returns a copy of e with numbers instead of names.
func (n *names) expression(e api.Expr) api.Expr {
	if e.Op != api.OpName {
		return api.Expr{Op: e.Op, Num: e.Num, Args: n.expressions(e.Args)}
	}
	number, global := n.variable(e.Name)
	if global {
		return api.Expr{Op: api.OpGlobal, Num: number}
	}
	return api.Expr{Op: api.OpLocal, Num: number}
}

func (n *names) expressions(l []api.Expr) []api.Expr {
	var copies []api.Expr
	for _, e := range l {
		copies = append(copies, n.expression(e))
	}
	return copies
}
