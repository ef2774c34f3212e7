package print

import (
	"strconv"
	"strings"

	"lockorder/api"
	"lockorder/expr"
)

// writer collects the parts of a text.
type writer struct {
	texts []string
	depth int // tabs before a line
}

// line adds a line that consists of these parts.
func (w *writer) line(parts ...string) {
	w.texts = append(w.texts, strings.Repeat("\t", w.depth))
	w.texts = append(w.texts, parts...)
	w.texts = append(w.texts, "\n")
}

// write returns the text of a well-formed program.
func write(p api.Program) string {
	w := &writer{}
	for _, g := range p.Globals {
		w.global(g)
	}
	for _, m := range p.Mutexes {
		w.mutex(m)
	}
	for _, f := range p.Funcs {
		w.function(f)
	}
	return strings.Join(w.texts, "")
}

func (w *writer) global(g api.Global) {
	if g.Init == 0 {
		w.line("var ", g.Name, ";")
	} else {
		w.line("var ", g.Name, " = ", strconv.Itoa(g.Init), ";")
	}
}

func (w *writer) mutex(m api.Mutex) {
	switch {
	case m.Reentrant:
		w.line("rmutex ", m.Name, ";")
	case m.Size == 0:
		w.line("mutex ", m.Name, ";")
	default:
		w.line("mutex ", m.Name, "[", strconv.Itoa(m.Size), "];")
	}
}

func (w *writer) function(f api.Func) {
	w.line("func ", f.Name, "(", list(f.Params, parameter), ") {")
	w.block(f.Body)
	w.line("}")
}

// block adds the lines of statements.
func (w *writer) block(l []api.Stmt) {
	w.depth++
	for _, s := range l {
		w.statement(s)
	}
	w.depth--
}

func (w *writer) statement(s api.Stmt) {
	switch s.Kind {
	case api.StmtVar:
		w.line("var ", s.Name, " = ", expr.Format(s.Expr), ";")
	case api.StmtAssign:
		w.line(s.Name, " = ", expr.Format(s.Expr), ";")
	case api.StmtCall:
		w.line(s.Name, "(", list(s.Args, argument), ");")
	case api.StmtGo:
		w.line("go ", s.Name, "(", list(s.Args, argument), ");")
	case api.StmtLock:
		w.line("lock ", reference(s.Ref), ";")
	case api.StmtUnlock:
		w.line("unlock ", reference(s.Ref), ";")
	case api.StmtIf:
		w.line("if ", expr.Format(s.Expr), " {")
		w.block(s.Then)
		if len(s.Else) > 0 {
			w.line("} else {")
			w.block(s.Else)
		}
		w.line("}")
	case api.StmtWhile:
		w.line("while ", expr.Format(s.Expr), " {")
		w.block(s.Then)
		w.line("}")
	case api.StmtReturn:
		w.line("return;")
	}
}

func parameter(p api.Param) string {
	if p.Mutex {
		return "mutex " + p.Name
	}
	return p.Name
}

func argument(a api.Arg) string {
	if a.Mutex {
		return "mutex " + reference(a.Ref)
	}
	return expr.Format(a.Expr)
}

func reference(r api.Ref) string {
	if len(r.Index) == 0 {
		return r.Name
	}
	return r.Name + "[" + expr.Format(r.Index[0]) + "]"
}

// list returns the texts of items, separated by commas.
func list[T any](l []T, text func(T) string) string {
	var texts []string
	for _, item := range l {
		texts = append(texts, text(item))
	}
	return strings.Join(texts, ", ")
}
