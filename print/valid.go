package print

import (
	"math"

	"lockorder/api"
	"lockorder/expr"
)

// checker counts statements, arguments, operators and operands. Each has a token of its own (an argument has the parenthesis or comma before it), so a program with more than MaxTokens of them is not valid. Since the check ends there, it is short even if lists share memory or contain themselves.
type checker struct{ parts int }

// another counts a part and reports whether there are not too many.
func (c *checker) another() bool {
	c.parts++
	return c.parts <= api.MaxTokens
}

// wellFormed reports whether p is valid, if its text does not have too many tokens.
func wellFormed(p api.Program) bool {
	if len(p.Globals) > api.MaxGlobals || len(p.Mutexes) > api.MaxMutexes || len(p.Funcs) > api.MaxFuncs {
		return false
	}
	c := &checker{}
	return every(p.Globals, validGlobal) && every(p.Mutexes, validMutex) && every(p.Funcs, c.function)
}

func validGlobal(g api.Global) bool {
	// A sign is not part of the number after it, and without its sign this one is too great.
	return isName(g.Name) && g.Init != math.MinInt64
}

func validMutex(m api.Mutex) bool {
	most := api.MaxElements
	if m.Reentrant {
		most = 0
	}
	return isName(m.Name) && 0 <= m.Size && m.Size <= most
}

func validParam(p api.Param) bool { return isName(p.Name) }

func (c *checker) function(f api.Func) bool {
	return isName(f.Name) && len(f.Params) <= api.MaxParams && every(f.Params, validParam) && walk(f.Body, c.statement)
}

// statement reports whether s has the fields of its kind and no others, whatever is in its blocks. The block with s is enclosed by around others.
func (c *checker) statement(s api.Stmt, around int) bool {
	if !c.another() {
		return false
	}
	right := false
	others := s
	switch s.Kind {
	case api.StmtVar, api.StmtAssign:
		right = isName(s.Name) && c.expression(s.Expr)
		others.Name, others.Expr = "", api.Expr{}
	case api.StmtCall, api.StmtGo:
		right = isName(s.Name) && every(s.Args, c.argument)
		others.Name, others.Args = "", nil
	case api.StmtLock, api.StmtUnlock:
		right = c.reference(s.Ref)
		others.Ref = api.Ref{}
	case api.StmtIf:
		right = c.expression(s.Expr) && mayEnclose(around)
		others.Expr, others.Then, others.Else = api.Expr{}, nil, nil
	case api.StmtWhile:
		right = c.expression(s.Expr) && mayEnclose(around)
		others.Expr, others.Then = api.Expr{}, nil
	case api.StmtReturn:
		right = true
	}
	return right && hasNoFields(others)
}

// mayEnclose reports whether a block that is enclosed by around others may have blocks in it. Empty ones count too: they have a text.
func mayEnclose(around int) bool { return around+1 < api.MaxNesting }

func (c *checker) argument(a api.Arg) bool {
	if !c.another() {
		return false
	}
	if a.Mutex {
		return c.reference(a.Ref) && isZeroExpr(a.Expr)
	}
	return c.expression(a.Expr) && isZeroRef(a.Ref)
}

func (c *checker) reference(r api.Ref) bool {
	return isName(r.Name) && len(r.Index) <= 1 && every(r.Index, c.expression)
}

func (c *checker) expression(e api.Expr) bool {
	pending := []api.Expr{e}
	for len(pending) > 0 {
		last := pending[len(pending)-1]
		if !c.another() {
			return false
		}
		pending = append(pending[:len(pending)-1], last.Args...)
	}
	return expr.Valid(e)
}

func isName(s string) bool { return expr.Valid(api.Expr{Op: api.OpName, Name: s}) }

// hasNoFields reports whether all fields of s but its Kind are zero.
func hasNoFields(s api.Stmt) bool {
	return s.Name == "" && isZeroExpr(s.Expr) && isZeroRef(s.Ref) && len(s.Args) == 0 && len(s.Then) == 0 && len(s.Else) == 0
}

func isZeroExpr(e api.Expr) bool {
	return e.Op == 0 && e.Num == 0 && e.Name == "" && len(e.Args) == 0
}

func isZeroRef(r api.Ref) bool { return r.Name == "" && len(r.Index) == 0 }

// every reports whether all items of l pass a test.
func every[T any](l []T, test func(T) bool) bool {
	for _, item := range l {
		if !test(item) {
			return false
		}
	}
	return true
}
