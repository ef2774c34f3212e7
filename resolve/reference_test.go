package resolve_test

import (
	"math/rand"
	"reflect"
	"slices"
	"strings"

	"lockorder/api"
	"lockorder/token"
)

// entry is a name with what it stands for. It is visible up to the next line that is indented by fewer tabs.
type entry struct {
	name, sort string // the sorts are int, mutex, array and func
	params     []string
	tabs       int
}

// reader is P5.1 and P5.2 for the canonical text of a valid program. Each of its lines is a declaration, a statement or the end of a block, so that no tree is needed.
type reader struct{ visible []entry }

func (r *reader) sortOf(name string) string {
	for _, e := range r.visible {
		if e.name == name {
			return e.sort
		}
	}
	return ""
}

func (r *reader) paramsOf(name string) []string {
	i := slices.IndexFunc(r.visible, func(e entry) bool { return e.name == name })
	return r.visible[i].params
}

// reference returns what Check must return for the program with this text.
func reference(text string) result {
	r := &reader{}
	lines := strings.Split(text, "\n")
	for _, line := range lines {
		if line == "" || strings.Contains("\t}", line[:1]) {
			continue
		}
		e, _ := declaration(line)
		if r.sortOf(e.name) != "" {
			return result{-1, len(r.visible), api.ErrDuplicate}
		}
		r.visible = append(r.visible, e)
	}
	if r.sortOf("main") != "func" || len(r.paramsOf("main")) > 0 {
		return result{-1, -1, api.ErrMain}
	}
	return r.functions(lines)
}

func (r *reader) functions(lines []string) result {
	function, statement := -1, -1
	for _, line := range lines {
		words := strings.TrimLeft(line, "\t")
		tabs := len(line) - len(words)
		r.visible = slices.DeleteFunc(r.visible, func(e entry) bool { return e.tabs > tabs })
		errno := api.OK
		switch {
		case strings.HasPrefix(words, "func "):
			function++
			statement = -1
			_, params := declaration(words)
			errno = r.parameters(params)
		case tabs > 0 && words[0] != '}':
			statement++
			errno = r.statement(texts(words), tabs)
		}
		if errno != api.OK {
			return result{function, statement, errno}
		}
	}
	return result{}
}

// texts returns the tokens of a line.
func texts(line string) []string {
	tokens, _, _ := token.Lex([]byte(line))
	var l []string
	for _, x := range tokens[:len(tokens)-1] {
		l = append(l, x.Text)
	}
	return l
}

// declaration returns what a line declares, and the parameters of a function.
func declaration(line string) (entry, []entry) {
	l := texts(line)
	e := entry{name: l[1], sort: "int"}
	var params []entry
	switch {
	case l[0] == "func":
		e.sort = "func"
		for _, x := range split(l) {
			p := entry{name: x[len(x)-1], sort: "int", tabs: 1}
			if x[0] == "mutex" {
				p.sort = "mutex"
			}
			params = append(params, p)
			e.params = append(e.params, p.sort)
		}
	case l[0] != "var" && l[2] == "[":
		e.sort = "array"
	case l[0] != "var":
		e.sort = "mutex"
	}
	return e, params
}

// split returns what the commas separate between the first opening and the last closing parenthesis.
func split(l []string) [][]string {
	last := len(l) - 1
	for l[last] != ")" {
		last--
	}
	inside := l[slices.Index(l, "(")+1 : last]
	if len(inside) == 0 {
		return nil
	}
	parts := [][]string{nil}
	for _, x := range inside {
		if x == "," {
			parts = append(parts, nil)
		} else {
			parts[len(parts)-1] = append(parts[len(parts)-1], x)
		}
	}
	return parts
}

func (r *reader) parameters(params []entry) api.Errno {
	for _, p := range params {
		if r.sortOf(p.name) != "" {
			return api.ErrDuplicate
		}
		r.visible = append(r.visible, p)
	}
	return api.OK
}

func (r *reader) statement(l []string, tabs int) api.Errno {
	switch {
	case l[0] == "var":
		if r.sortOf(l[1]) != "" {
			return api.ErrDuplicate
		}
		errno := r.names(l[2:])
		r.visible = append(r.visible, entry{name: l[1], sort: "int", tabs: tabs})
		return errno
	case l[0] == "lock", l[0] == "unlock":
		return r.mutex(l[1:])
	case l[0] == "go":
		return r.call(l[1:])
	case l[1] == "(" && l[0] != "if" && l[0] != "while":
		return r.call(l)
	}
	// For an assignment, the name on the left is one like those on the right.
	return r.names(l)
}

// expect returns the error of a name that must have one of the sorts.
func (r *reader) expect(name string, sorts ...string) api.Errno {
	got := r.sortOf(name)
	if got == "" {
		return api.ErrUnknown
	}
	if !slices.Contains(sorts, got) {
		return api.ErrSort
	}
	return api.OK
}

// names returns the error of the first name that is not an integer variable.
func (r *reader) names(l []string) api.Errno {
	for _, x := range l {
		if isName := strings.ContainsAny(x[:1], "abcdefghijklmnopqrstuvwxyz_ABCDEFGHIJKLMNOPQRSTUVWXYZ") && !token.Reserved(x); !isName {
			continue
		}
		if errno := r.expect(x, "int"); errno != api.OK {
			return errno
		}
	}
	return api.OK
}

// mutex returns the error of a reference.
func (r *reader) mutex(l []string) api.Errno {
	if errno := r.expect(l[0], "mutex", "array"); errno != api.OK {
		return errno
	}
	if hasIndex := slices.Contains(l, "["); hasIndex != (r.sortOf(l[0]) == "array") {
		return api.ErrSort
	}
	return r.names(l[1:])
}

func (r *reader) call(l []string) api.Errno {
	if errno := r.expect(l[0], "func"); errno != api.OK {
		return errno
	}
	params, args := r.paramsOf(l[0]), split(l)
	if len(params) != len(args) {
		return api.ErrArity
	}
	for i, x := range args {
		errno := api.ErrSort
		switch {
		case x[0] == "mutex" && params[i] == "mutex":
			errno = r.mutex(x[1:])
		case x[0] != "mutex" && params[i] == "int":
			errno = r.names(x)
		}
		if errno != api.OK {
			return errno
		}
	}
	return api.OK
}

// maker makes programs by chance. They are right but for mistakes: one of so many names is any name (none if mistakes is 0).
type maker struct {
	reader
	r        *rand.Rand
	mistakes int
	left     int // the number of statements that may still be made
}

// pool has the names that are used; not all of them are ever declared.
const pool = "a b c d e f g h i j k x y z main xx abcdefghijklmnop undeclared"

func (m *maker) mistake() bool { return m.mistakes > 0 && m.r.Intn(m.mistakes) == 0 }

func (m *maker) anyName() string {
	l := strings.Fields(pool)
	return l[m.r.Intn(len(l))]
}

// fresh returns a name that may be declared.
func (m *maker) fresh() string {
	name := m.anyName()
	for !m.mistake() && (name == "undeclared" || name == "main" || m.sortOf(name) != "") {
		name = m.anyName()
	}
	return name
}

// known returns a visible name of one of the sorts, and whether there is one.
func (m *maker) known(sorts ...string) (string, bool) {
	if m.mistake() {
		return m.anyName(), true
	}
	var l []string
	for _, e := range m.visible {
		if slices.Contains(sorts, e.sort) {
			l = append(l, e.name)
		}
	}
	if len(l) == 0 {
		return "", false
	}
	return l[m.r.Intn(len(l))], true
}

func (m *maker) expression(size int) api.Expr {
	if size == 0 {
		if s, ok := m.known("int"); ok && m.r.Intn(3) > 0 {
			return api.Expr{Op: api.OpName, Name: s}
		}
		return api.Expr{Op: api.OpNumber, Num: m.r.Intn(10)}
	}
	if m.r.Intn(4) == 0 {
		return api.Expr{Op: api.OpNegate + m.r.Intn(2), Args: []api.Expr{m.expression(size - 1)}}
	}
	left := m.r.Intn(size)
	return api.Expr{Op: api.OpMultiply + m.r.Intn(13), Args: []api.Expr{m.expression(left), m.expression(size - 1 - left)}}
}

func (m *maker) anyExpression() api.Expr { return m.expression(m.r.Intn(4)) }

func (m *maker) reference() (api.Ref, bool) {
	s, ok := m.known("mutex", "array")
	ref := api.Ref{Name: s}
	if (m.sortOf(s) == "array") != m.mistake() {
		ref.Index = []api.Expr{m.anyExpression()}
	}
	return ref, ok
}

func (m *maker) arguments(params []string) ([]api.Arg, bool) {
	var l []api.Arg
	for _, sort := range params {
		if m.mistake() {
			continue
		}
		a := api.Arg{Mutex: (sort == "mutex") != m.mistake()}
		if !a.Mutex {
			a.Expr = m.anyExpression()
		} else if ref, ok := m.reference(); ok {
			a.Ref = ref
		} else {
			return nil, false
		}
		l = append(l, a)
	}
	if m.mistake() {
		l = append(l, api.Arg{Expr: m.anyExpression()})
	}
	return l, true
}

func (m *maker) block(around int) []api.Stmt {
	var l []api.Stmt
	outside := len(m.visible)
	for m.left > 0 && m.r.Intn(5) > 0 {
		m.left--
		l = append(l, m.statement(around))
	}
	m.visible = m.visible[:outside]
	return l
}

func (m *maker) statement(around int) api.Stmt {
	s := api.Stmt{Kind: api.StmtVar + m.r.Intn(8)}
	ok := true
	switch s.Kind {
	case api.StmtVar:
		s.Name, s.Expr = m.fresh(), m.anyExpression()
		m.visible = append(m.visible, entry{name: s.Name, sort: "int"})
	case api.StmtAssign:
		s.Name, ok = m.known("int")
		s.Expr = m.anyExpression()
	case api.StmtCall, api.StmtGo:
		s.Name, _ = m.known("func")
		var params []string
		if m.sortOf(s.Name) == "func" {
			params = m.paramsOf(s.Name)
		}
		s.Args, ok = m.arguments(params)
	case api.StmtLock, api.StmtUnlock:
		s.Ref, ok = m.reference()
	case api.StmtIf, api.StmtWhile:
		if around == 5 {
			return api.Stmt{Kind: api.StmtReturn}
		}
		s.Expr, s.Then = m.anyExpression(), m.block(around+1)
		if s.Kind == api.StmtIf {
			s.Else = m.block(around + 1)
		}
	}
	if !ok {
		return api.Stmt{Kind: api.StmtReturn}
	}
	return s
}

// declare adds a declared name.
func (m *maker) declare(sort string, params ...string) string {
	name := m.fresh()
	m.visible = append(m.visible, entry{name: name, sort: sort, params: params})
	return name
}

func (m *maker) program() api.Program {
	var p api.Program
	m.visible = nil
	for range m.r.Intn(3) {
		p.Globals = append(p.Globals, api.Global{Name: m.declare("int"), Init: m.r.Intn(3) - 1})
	}
	for range m.r.Intn(4) {
		if m.r.Intn(2) == 0 {
			p.Mutexes = append(p.Mutexes, api.Mutex{Name: m.declare("array"), Size: 1 + m.r.Intn(3)})
		} else {
			p.Mutexes = append(p.Mutexes, api.Mutex{Name: m.declare("mutex"), Reentrant: m.r.Intn(2) == 0})
		}
	}
	p.Funcs = make([]api.Func, 1+m.r.Intn(3))
	main := m.r.Intn(len(p.Funcs))
	for i := range p.Funcs {
		m.signature(&p.Funcs[i], i == main && !m.mistake())
	}
	everywhere := len(m.visible)
	for i := range p.Funcs {
		f := &p.Funcs[i]
		for j, x := range f.Params {
			f.Params[j].Name = m.declare(map[bool]string{false: "int", true: "mutex"}[x.Mutex])
		}
		f.Body = m.block(0)
		m.visible = m.visible[:everywhere]
	}
	return p
}

// signature declares a function and decides on the sorts of its parameters.
func (m *maker) signature(f *api.Func, main bool) {
	if main {
		f.Name = "main"
		m.visible = append(m.visible, entry{name: "main", sort: "func"})
		return
	}
	var params []string
	for range m.r.Intn(4) {
		p := api.Param{Mutex: m.r.Intn(2) == 0}
		f.Params = append(f.Params, p)
		params = append(params, map[bool]string{false: "int", true: "mutex"}[p.Mutex])
	}
	f.Name = m.declare("func", params...)
}

// changeTexts replaces every text in v by what change returns for it.
func changeTexts(v reflect.Value, change func(string) string) {
	switch v.Kind() {
	case reflect.Struct:
		for i := range v.NumField() {
			changeTexts(v.Field(i), change)
		}
	case reflect.Slice:
		for i := range v.Len() {
			changeTexts(v.Index(i), change)
		}
	case reflect.String:
		v.SetString(change(v.String()))
	}
}
