package parse

import "lockorder/api"

// program reads declarations up to the end.
func (p *parser) program() api.Program {
	var all api.Program
	for p.errno == api.OK && !p.seesKind(api.TokenEnd) {
		switch {
		case p.sees("var"):
			p.limit(len(all.Globals), api.MaxGlobals)
			all.Globals = append(all.Globals, p.global())
		case p.sees("mutex"), p.sees("rmutex"):
			p.limit(len(all.Mutexes), api.MaxMutexes)
			all.Mutexes = append(all.Mutexes, p.mutex())
		case p.sees("func"):
			p.limit(len(all.Funcs), api.MaxFuncs)
			all.Funcs = append(all.Funcs, p.function())
		default:
			p.fail(api.ErrSyntax)
		}
	}
	return all
}

func (p *parser) global() api.Global {
	p.expect("var")
	g := api.Global{Name: p.name()}
	if p.accept("=") {
		negative := p.accept("-")
		g.Init = p.number()
		if negative {
			g.Init = -g.Init
		}
	}
	p.expect(";")
	return g
}

func (p *parser) mutex() api.Mutex {
	m := api.Mutex{Reentrant: p.accept("rmutex")}
	if !m.Reentrant {
		p.expect("mutex")
	}
	m.Name = p.name()
	if !m.Reentrant && p.accept("[") {
		m.Size = p.size()
		p.expect("]")
	}
	p.expect(";")
	return m
}

// size reads the number of elements of an array.
func (p *parser) size() int {
	if n := p.tokens[p.at].Num; p.seesKind(api.TokenNumber) && (n < 1 || n > api.MaxElements) {
		p.fail(api.ErrLimit)
	}
	return p.number()
}

func (p *parser) function() api.Func {
	p.expect("func")
	f := api.Func{Name: p.name()}
	f.Params = list(p, p.parameter)
	f.Body = p.block()
	return f
}

func (p *parser) parameter(index int) api.Param {
	// A token that does not fit is no parameter, so it is not one too many either.
	if p.sees("mutex") || p.seesKind(api.TokenName) {
		p.limit(index, api.MaxParams)
	}
	isMutex := p.accept("mutex")
	return api.Param{Name: p.name(), Mutex: isMutex}
}
