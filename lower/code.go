package lower

import "lockorder/api"

// coder collects the code of a function.
type coder struct {
	names
	code       []api.Instr
	sites      []int // for each instruction, the number of its statement
	statements int   // how many have been begun
}

// translate returns the procedure of a function, and the statement of each of its instructions.
func translate(f api.Func, declared map[string]int) (api.Proc, []int) {
	c := &coder{names: newNames(declared)}
	for _, p := range f.Params {
		if p.Mutex {
			c.lock(p.Name)
		} else {
			c.local(p.Name)
		}
	}
	proc := api.Proc{Name: f.Name, Ints: c.count, Locks: len(c.locks)}
	c.block(f.Body)
	c.add(api.Instr{Op: api.InstrReturn}, c.statements)
	proc.Locals, proc.Code = c.count, c.code
	return proc, c.sites
}

// add adds an instruction of a statement and returns the number of the instruction.
func (c *coder) add(i api.Instr, site int) int {
	c.code = append(c.code, i)
	c.sites = append(c.sites, site)
	return len(c.code) - 1
}

func (c *coder) block(l []api.Stmt) {
	for _, s := range l {
		c.statement(s)
	}
}

func (c *coder) statement(s api.Stmt) {
	site := c.statements
	c.statements++
	// The statements in the blocks of s come in between, but all that is emitted here belongs to s.
	emit := func(i api.Instr) int { return c.add(i, site) }
	switch s.Kind {
	case api.StmtVar:
		value := c.expression(s.Expr) // in which the variable is not visible yet
		emit(api.Instr{Op: api.InstrSet, Target: c.local(s.Name), Expr: value})
	case api.StmtAssign:
		n, global := c.variable(s.Name)
		emit(api.Instr{Op: api.InstrSet, Target: n, Global: global, Expr: c.expression(s.Expr)})
	case api.StmtCall:
		emit(c.call(api.InstrCall, s))
	case api.StmtGo:
		emit(c.call(api.InstrGo, s))
	case api.StmtLock:
		emit(api.Instr{Op: api.InstrLock, Place: c.place(s.Ref)})
	case api.StmtUnlock:
		emit(api.Instr{Op: api.InstrUnlock, Place: c.place(s.Ref)})
	case api.StmtIf:
		c.choice(s, emit)
	case api.StmtWhile:
		c.loop(s, emit)
	case api.StmtReturn:
		emit(api.Instr{Op: api.InstrReturn})
	}
}

// choice adds the code of a StmtIf. The targets are known only when the blocks before them have their code.
func (c *coder) choice(s api.Stmt, emit func(api.Instr) int) {
	branch := emit(api.Instr{Op: api.InstrBranch, Expr: c.expression(s.Expr)})
	c.block(s.Then)
	if len(s.Else) == 0 {
		c.code[branch].Target = len(c.code)
		return
	}
	jump := emit(api.Instr{Op: api.InstrJump})
	c.code[branch].Target = len(c.code)
	c.block(s.Else)
	c.code[jump].Target = len(c.code)
}

// loop adds the code of a StmtWhile.
func (c *coder) loop(s api.Stmt, emit func(api.Instr) int) {
	branch := emit(api.Instr{Op: api.InstrBranch, Expr: c.expression(s.Expr)})
	c.block(s.Then)
	emit(api.Instr{Op: api.InstrJump, Target: branch})
	c.code[branch].Target = len(c.code)
}

// call returns the instruction of a StmtCall or StmtGo.
func (c *coder) call(op int, s api.Stmt) api.Instr {
	i := api.Instr{Op: op, Target: c.declared[s.Name]}
	for _, a := range s.Args {
		if a.Mutex {
			i.Places = append(i.Places, c.place(a.Ref))
		} else {
			i.Ints = append(i.Ints, c.expression(a.Expr))
		}
	}
	return i
}
