package parse

import "lockorder/api"

func (p *parser) block() []api.Stmt {
	if p.sees("{") {
		p.limit(p.open, api.MaxNesting)
	}
	p.expect("{")
	p.open++
	var l []api.Stmt
	for p.errno == api.OK && !p.accept("}") {
		l = append(l, p.statement())
	}
	p.open--
	return l
}

func (p *parser) statement() api.Stmt {
	switch {
	case p.accept("var"):
		return p.assignment(api.StmtVar, p.name())
	case p.accept("go"):
		return p.call(api.StmtGo, p.name())
	case p.accept("lock"):
		return p.lock(api.StmtLock)
	case p.accept("unlock"):
		return p.lock(api.StmtUnlock)
	case p.accept("if"):
		return p.branch()
	case p.accept("while"):
		return p.loop()
	case p.accept("return"):
		p.expect(";")
		return api.Stmt{Kind: api.StmtReturn}
	}
	// The other statements begin with a name; what follows it tells them apart.
	name := p.name()
	if p.sees("(") {
		return p.call(api.StmtCall, name)
	}
	return p.assignment(api.StmtAssign, name)
}

// assignment reads what follows the name of a StmtVar or StmtAssign.
func (p *parser) assignment(kind int, name string) api.Stmt {
	s := api.Stmt{Kind: kind, Name: name}
	p.expect("=")
	s.Expr = p.expression()
	p.expect(";")
	return s
}

// call reads what follows the name of a StmtCall or StmtGo.
func (p *parser) call(kind int, name string) api.Stmt {
	s := api.Stmt{Kind: kind, Name: name}
	s.Args = list(p, p.argument)
	p.expect(";")
	return s
}

func (p *parser) argument(int) api.Arg {
	if p.accept("mutex") {
		return api.Arg{Mutex: true, Ref: p.reference()}
	}
	return api.Arg{Expr: p.expression()}
}

// lock reads what follows the word of a StmtLock or StmtUnlock.
func (p *parser) lock(kind int) api.Stmt {
	s := api.Stmt{Kind: kind, Ref: p.reference()}
	p.expect(";")
	return s
}

func (p *parser) reference() api.Ref {
	r := api.Ref{Name: p.name()}
	if p.accept("[") {
		r.Index = []api.Expr{p.expression()}
		p.expect("]")
	}
	return r
}

// branch reads what follows the word of a StmtIf.
func (p *parser) branch() api.Stmt {
	s := api.Stmt{Kind: api.StmtIf, Expr: p.expression()}
	s.Then = p.block()
	if p.accept("else") {
		s.Else = p.block()
	}
	return s
}

// loop reads what follows the word of a StmtWhile.
func (p *parser) loop() api.Stmt {
	s := api.Stmt{Kind: api.StmtWhile, Expr: p.expression()}
	s.Then = p.block()
	return s
}
