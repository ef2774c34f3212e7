package resolve

import "lockorder/api"

// function checks a function. With an error, number is that of its statement.
func (c *checker) function(f api.Func) api.Errno {
	c.number = -1
	for _, p := range f.Params {
		s := integer
		if p.Mutex {
			s = scalar
		}
		if errno := c.declareLocal(p.Name, s); errno != api.OK {
			return errno
		}
	}
	errno := c.block(f.Body)
	c.leave(0)
	return errno
}

// block checks the statements of a block and of the blocks in it.
func (c *checker) block(l []api.Stmt) api.Errno {
	outside := len(c.locals)
	for _, s := range l {
		c.number++
		if errno := c.statement(s); errno != api.OK {
			return errno
		}
		if errno := c.block(s.Then); errno != api.OK {
			return errno
		}
		if errno := c.block(s.Else); errno != api.OK {
			return errno
		}
	}
	c.leave(outside)
	return api.OK
}

// statement checks a statement without its blocks.
func (c *checker) statement(s api.Stmt) api.Errno {
	switch s.Kind {
	case api.StmtVar:
		if errno := first(c.free(s.Name), c.expression(s.Expr)); errno != api.OK {
			return errno
		}
		return c.declareLocal(s.Name, integer)
	case api.StmtAssign:
		return first(c.expect(s.Name, integer), c.expression(s.Expr))
	case api.StmtCall, api.StmtGo:
		return c.call(s)
	case api.StmtLock, api.StmtUnlock:
		return c.reference(s.Ref)
	case api.StmtIf, api.StmtWhile:
		return c.expression(s.Expr)
	}
	return api.OK
}

func (c *checker) call(s api.Stmt) api.Errno {
	if errno := c.expect(s.Name, function); errno != api.OK {
		return errno
	}
	params := c.visible[s.Name].params
	if len(s.Args) != len(params) {
		return api.ErrArity
	}
	for i, a := range s.Args {
		if errno := c.argument(a, params[i]); errno != api.OK {
			return errno
		}
	}
	return api.OK
}

func (c *checker) argument(a api.Arg, p api.Param) api.Errno {
	if a.Mutex != p.Mutex {
		return api.ErrSort
	}
	if a.Mutex {
		return c.reference(a.Ref)
	}
	return c.expression(a.Expr)
}

func (c *checker) reference(r api.Ref) api.Errno {
	return first(c.expect(r.Name, sortOfMutex(len(r.Index) > 0)), c.expressions(r.Index))
}

func (c *checker) expression(e api.Expr) api.Errno {
	if e.Op == api.OpName {
		return c.expect(e.Name, integer)
	}
	return c.expressions(e.Args)
}

// expressions checks expressions from the left.
func (c *checker) expressions(l []api.Expr) api.Errno {
	for _, e := range l {
		if errno := c.expression(e); errno != api.OK {
			return errno
		}
	}
	return api.OK
}

// first returns the first error.
func first(l ...api.Errno) api.Errno {
	for _, errno := range l {
		if errno != api.OK {
			return errno
		}
	}
	return api.OK
}
