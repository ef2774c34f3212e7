package parse_test

import (
	"slices"
	"strings"

	"lockorder/api"
	"lockorder/expr"
	"lockorder/token"
)

// grammar is P3.1: what each symbol may be replaced by. Symbols with a capital letter that have no row here are those of take. The first choice of each row leads to an end.
var grammar = map[string][]string{
	"Program":    {"", "Decl Program"},
	"Decl":       {"rmutex Name ;", "var Name Init ;", "mutex Name Size ;", "func Name ( Params ) Block"},
	"Init":       {"", "= Value"},
	"Value":      {"Number", "- Number"},
	"Size":       {"", "[ Elements ]"},
	"Params":     {"", "Param MoreParams"},
	"MoreParams": {"", ", Param MoreParams"},
	"Param":      {"Name", "mutex Name"},
	"Block":      {"{ Stmts }"},
	"Stmts":      {"", "Stmt Stmts"},
	"Stmt":       {"return ;", "Name After", "var Name = Expr ;", "go Name ( Args ) ;", "lock Ref ;", "unlock Ref ;", "if Expr Block Else", "while Expr Block"},
	"After":      {"= Expr ;", "( Args ) ;"},
	"Args":       {"", "Arg MoreArgs"},
	"MoreArgs":   {"", ", Arg MoreArgs"},
	"Arg":        {"Expr", "mutex Ref"},
	"Ref":        {"Name Index"},
	"Index":      {"", "[ Expr ]"},
	"Else":       {"", "else Block"},
}

// machine replaces the first symbol of a list by what the next token asks for, and counts what has a limit.
type machine struct {
	tokens                                  []api.Token
	at                                      int
	symbols                                 []string
	globals, mutexes, funcs, params, blocks int
}

// referenceEnd is P3.2 and P3.3 without what is read: the index and the error of the symbol that begins at token at.
func referenceEnd(l []api.Token, at int, symbol string) (int, api.Errno) {
	m := machine{tokens: l, at: at, symbols: []string{symbol}}
	for len(m.symbols) > 0 {
		s := m.symbols[0]
		m.symbols = m.symbols[1:]
		if errno := m.step(s); errno != api.OK {
			return m.at, errno
		}
	}
	if symbol == "Program" && l[m.at].Kind != api.TokenEnd {
		return m.at, api.ErrSyntax
	}
	return m.at, api.OK
}

func (m *machine) step(symbol string) api.Errno {
	rows, ok := grammar[symbol]
	if !ok {
		return m.take(symbol)
	}
	for _, row := range rows {
		if first, _, _ := strings.Cut(row, " "); starts(first, m.tokens[m.at]) {
			m.symbols = append(strings.Fields(row), m.symbols...)
			return m.count(symbol)
		}
	}
	if rows[0] == "" {
		return api.OK
	}
	return api.ErrSyntax
}

// starts reports whether a symbol may begin with a token.
func starts(symbol string, t api.Token) bool {
	for _, row := range grammar[symbol] {
		if first, _, _ := strings.Cut(row, " "); starts(first, t) {
			return true
		}
	}
	switch symbol {
	case "Name":
		return t.Kind == api.TokenName
	case "Number", "Elements":
		return t.Kind == api.TokenNumber
	case "Expr":
		return t.Kind == api.TokenName || t.Kind == api.TokenNumber || t.Kind == api.TokenSign && strings.Contains("(-!", t.Text)
	}
	return (t.Kind == api.TokenWord || t.Kind == api.TokenSign) && t.Text == symbol
}

// count enforces the limits of what a symbol begins.
func (m *machine) count(symbol string) api.Errno {
	exceeds := func(n *int, most int) bool {
		*n++
		return *n > most
	}
	over := false
	switch symbol {
	case "Decl":
		switch m.tokens[m.at].Text {
		case "var":
			over = exceeds(&m.globals, api.MaxGlobals)
		case "mutex", "rmutex":
			over = exceeds(&m.mutexes, api.MaxMutexes)
		case "func":
			over = exceeds(&m.funcs, api.MaxFuncs)
			m.params = 0
		}
	case "Param":
		over = exceeds(&m.params, api.MaxParams)
	case "Block":
		over = exceeds(&m.blocks, api.MaxNesting)
	}
	if over {
		return api.ErrLimit
	}
	return api.OK
}

// take passes the tokens of a symbol that is not replaced.
func (m *machine) take(symbol string) api.Errno {
	t := m.tokens[m.at]
	switch {
	case symbol == "Expr":
		_, at, errno := expr.Parse(m.tokens, m.at)
		m.at = at
		return errno
	case !starts(symbol, t):
		return api.ErrSyntax
	case symbol == "Elements" && (t.Num < 1 || t.Num > api.MaxElements):
		return api.ErrLimit
	case symbol == "}":
		m.blocks--
	}
	m.at++
	return api.OK
}

// referenceProgram is the program of tokens that are one, without their end: it is divided at the signs that end its parts.
func referenceProgram(l []api.Token) api.Program {
	var p api.Program
	for len(l) > 0 {
		end := until(l, ";")
		if l[0].Text == "func" {
			open := until(l, "{")
			end = closing(l, open)
			p.Funcs = append(p.Funcs, api.Func{Name: l[1].Text, Params: referenceParams(l[3 : open-1]), Body: referenceStmts(l[open+1 : end])})
		} else if l[0].Text == "var" {
			g := api.Global{Name: l[1].Text, Init: l[end-1].Num}
			if l[end-2].Text == "-" {
				g.Init = -g.Init
			}
			p.Globals = append(p.Globals, g)
		} else {
			m := api.Mutex{Name: l[1].Text, Reentrant: l[0].Text == "rmutex"}
			if end > 2 {
				m.Size = l[3].Num
			}
			p.Mutexes = append(p.Mutexes, m)
		}
		l = l[end+1:]
	}
	return p
}

// referenceStmts are the statements of tokens that are some.
func referenceStmts(l []api.Token) []api.Stmt {
	var out []api.Stmt
	for len(l) > 0 {
		var s api.Stmt
		end := until(l, ";")
		switch word := l[0].Text; word {
		case "var":
			s = api.Stmt{Kind: api.StmtVar, Name: l[1].Text, Expr: referenceExpr(l[3:end])}
		case "go":
			s = api.Stmt{Kind: api.StmtGo, Name: l[1].Text, Args: referenceArgs(l[3 : end-1])}
		case "lock", "unlock":
			s = api.Stmt{Kind: map[string]int{"lock": api.StmtLock, "unlock": api.StmtUnlock}[word], Ref: referenceRef(l[1:end])}
		case "if", "while":
			open := until(l, "{")
			end = closing(l, open)
			s = api.Stmt{Kind: map[string]int{"if": api.StmtIf, "while": api.StmtWhile}[word], Expr: referenceExpr(l[1:open]), Then: referenceStmts(l[open+1 : end])}
			if end+1 < len(l) && l[end+1].Text == "else" {
				open = end + 2
				end = closing(l, open)
				s.Else = referenceStmts(l[open+1 : end])
			}
		case "return":
			s = api.Stmt{Kind: api.StmtReturn}
		default:
			if l[1].Text == "(" {
				s = api.Stmt{Kind: api.StmtCall, Name: word, Args: referenceArgs(l[2 : end-1])}
			} else {
				s = api.Stmt{Kind: api.StmtAssign, Name: word, Expr: referenceExpr(l[2:end])}
			}
		}
		out = append(out, s)
		l = l[end+1:]
	}
	return out
}

func referenceParams(l []api.Token) []api.Param {
	var out []api.Param
	for _, part := range split(l) {
		out = append(out, api.Param{Name: part[len(part)-1].Text, Mutex: len(part) == 2})
	}
	return out
}

func referenceArgs(l []api.Token) []api.Arg {
	var out []api.Arg
	for _, part := range split(l) {
		if part[0].Text == "mutex" {
			out = append(out, api.Arg{Mutex: true, Ref: referenceRef(part[1:])})
		} else {
			out = append(out, api.Arg{Expr: referenceExpr(part)})
		}
	}
	return out
}

func referenceRef(l []api.Token) api.Ref {
	if len(l) == 1 {
		return api.Ref{Name: l[0].Text}
	}
	return api.Ref{Name: l[0].Text, Index: []api.Expr{referenceExpr(l[2 : len(l)-1])}}
}

func referenceExpr(l []api.Token) api.Expr {
	e, _, _ := expr.Parse(append(slices.Clip(l), api.Token{Kind: api.TokenEnd}), 0)
	return e
}

// until returns the index of the first token with this text, or -1.
func until(l []api.Token, text string) int {
	return slices.IndexFunc(l, func(t api.Token) bool { return t.Text == text })
}

// closing returns the index of the } that belongs to the { with this index.
func closing(l []api.Token, open int) int {
	depth := 0
	for i := open; ; i++ {
		switch l[i].Text {
		case "{":
			depth++
		case "}":
			depth--
		}
		if depth == 0 {
			return i
		}
	}
}

// split divides tokens at the commas, of which no expression has any.
func split(l []api.Token) [][]api.Token {
	var out [][]api.Token
	for len(l) > 0 {
		i := until(l, ",")
		if i < 0 {
			i = len(l)
		}
		out = append(out, l[:i])
		l = l[min(i+1, len(l)):]
	}
	return out
}

// lex returns the tokens of a text, with their end.
func lex(s string) []api.Token {
	l, _, errno := token.Lex([]byte(s))
	if errno != api.OK {
		panic("no tokens: " + s)
	}
	return l
}
