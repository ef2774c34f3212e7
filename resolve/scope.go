package resolve

import "lockorder/api"

// sort is what a name may stand for. A name that is not visible has the zero value, as a map returns it.
type sort int

const (
	unknown sort = iota
	integer      // a global variable, an integer parameter or a declared variable
	scalar       // a mutex that is not an array, or a mutex parameter
	array        // an array of mutexes
	function
)

// sortOfMutex returns the sort of a mutex, or the one that a reference to a mutex asks for.
func sortOfMutex(isArray bool) sort {
	if isArray {
		return array
	}
	return scalar
}

// meaning is what a name stands for; only functions have params.
type meaning struct {
	sort   sort
	params []api.Param
}

// declaration gives a name its meaning.
type declaration struct {
	name string
	meaning
}

// checker checks one statement after the other.
type checker struct {
	visible map[string]meaning
	locals  []string // the visible names of the function, in the order of their declarations
	number  int      // of the statement that is checked, or -1 before the first one
}

// free returns ErrDuplicate if a name is visible.
func (c *checker) free(name string) api.Errno {
	if c.visible[name].sort != unknown {
		return api.ErrDuplicate
	}
	return api.OK
}

// declare makes a name visible.
func (c *checker) declare(name string, m meaning) api.Errno {
	errno := c.free(name)
	if errno == api.OK {
		c.visible[name] = m
	}
	return errno
}

// declareLocal makes a name visible until its function or block is left.
func (c *checker) declareLocal(name string, s sort) api.Errno {
	c.locals = append(c.locals, name)
	return c.declare(name, meaning{sort: s})
}

// leave makes the names of the function invisible, except the first ones, as many as are kept. No name of the same spelling appears instead, since a visible one is never declared again.
func (c *checker) leave(kept int) {
	for _, name := range c.locals[kept:] {
		delete(c.visible, name)
	}
	c.locals = c.locals[:kept]
}

// expect returns the error of a name that must stand for something of a certain sort.
func (c *checker) expect(name string, want sort) api.Errno {
	switch c.visible[name].sort {
	case want:
		return api.OK
	case unknown:
		return api.ErrUnknown
	}
	return api.ErrSort
}
