package print_test

import (
	"math/rand"
	"reflect"
	"strconv"
	"strings"

	"lockorder/api"
	"lockorder/expr"
	"lockorder/parse"
	"lockorder/token"
)

// lister lists the tokens of a program, also of one that is not valid. Without a random source these are the canonical ones; with one, tokens are added that do not change the program.
type lister struct{ r *rand.Rand }

// maybe is never true without a random source.
func (w lister) maybe() bool { return w.r != nil && w.r.Intn(3) == 0 }

func (w lister) program(p api.Program) []string {
	var kinds [3][][]string
	for _, g := range p.Globals {
		kinds[0] = append(kinds[0], w.global(g))
	}
	for _, m := range p.Mutexes {
		kinds[1] = append(kinds[1], w.mutex(m))
	}
	for _, f := range p.Funcs {
		kinds[2] = append(kinds[2], w.function(f))
	}
	var out []string
	for len(kinds[0])+len(kinds[1])+len(kinds[2]) > 0 {
		for i := range kinds {
			for len(kinds[i]) > 0 && !w.maybe() {
				out = append(out, kinds[i][0]...)
				kinds[i] = kinds[i][1:]
			}
		}
	}
	return out
}

func (w lister) global(g api.Global) []string {
	l := []string{"var", g.Name}
	switch {
	case g.Init < 0:
		l = append(l, "=", "-", strconv.FormatUint(uint64(-g.Init), 10))
	case g.Init > 0:
		l = append(l, "=", strconv.Itoa(g.Init))
	case w.maybe():
		l = append(l, "=", "0")
	case w.maybe():
		l = append(l, "=", "-", "00")
	}
	return append(l, ";")
}

func (w lister) mutex(m api.Mutex) []string {
	l := []string{"mutex", m.Name}
	if m.Reentrant {
		l[0] = "rmutex"
	}
	if m.Size != 0 {
		l = append(l, "[", strconv.Itoa(m.Size), "]")
	}
	return append(l, ";")
}

func (w lister) function(f api.Func) []string {
	l := []string{"func", f.Name, "("}
	for i, x := range f.Params {
		if i > 0 {
			l = append(l, ",")
		}
		if x.Mutex {
			l = append(l, "mutex")
		}
		l = append(l, x.Name)
	}
	return append(append(l, ")"), w.block(f.Body)...)
}

func (w lister) block(l []api.Stmt) []string {
	out := []string{"{"}
	for _, s := range l {
		out = append(out, w.statement(s)...)
	}
	return append(out, "}")
}

func (w lister) statement(s api.Stmt) []string {
	join := func(parts ...any) []string {
		var out []string
		for _, x := range parts {
			switch x := x.(type) {
			case string:
				out = append(out, x)
			case []string:
				out = append(out, x...)
			}
		}
		return out
	}
	switch s.Kind {
	case api.StmtVar:
		return join("var", s.Name, "=", w.expression(s.Expr), ";")
	case api.StmtAssign:
		return join(s.Name, "=", w.expression(s.Expr), ";")
	case api.StmtCall:
		return join(s.Name, "(", w.arguments(s.Args), ")", ";")
	case api.StmtGo:
		return join("go", s.Name, "(", w.arguments(s.Args), ")", ";")
	case api.StmtLock:
		return join("lock", w.reference(s.Ref), ";")
	case api.StmtUnlock:
		return join("unlock", w.reference(s.Ref), ";")
	case api.StmtIf:
		l := join("if", w.expression(s.Expr), w.block(s.Then))
		if len(s.Else) > 0 || w.maybe() {
			l = join(l, "else", w.block(s.Else))
		}
		return l
	case api.StmtWhile:
		return join("while", w.expression(s.Expr), w.block(s.Then))
	case api.StmtReturn:
		return []string{"return", ";"}
	}
	return []string{"?"}
}

func (w lister) arguments(l []api.Arg) []string {
	var out []string
	for i, x := range l {
		if i > 0 {
			out = append(out, ",")
		}
		if x.Mutex {
			out = append(append(out, "mutex"), w.reference(x.Ref)...)
		} else {
			out = append(out, w.expression(x.Expr)...)
		}
	}
	return out
}

func (w lister) reference(r api.Ref) []string {
	l := []string{r.Name}
	for _, x := range r.Index {
		l = append(append(append(l, "["), w.expression(x)...), "]")
	}
	return l
}

func (w lister) expression(e api.Expr) []string {
	var out []string
	for _, s := range strings.Fields(strings.ReplaceAll(expr.Format(e), ")", " )")) {
		// Unary operators and parentheses have no blank after them.
		for len(s) > 1 && strings.Contains("(-!", s[:1]) && s != "!=" {
			out = append(out, s[:1])
			s = s[1:]
		}
		if s[0] >= '0' && s[0] <= '9' && w.maybe() {
			s = "00" + s
		}
		out = append(out, s)
	}
	for height := expr.Height(e); height < api.MaxNesting && w.maybe(); height++ {
		out = append(append([]string{"("}, out...), ")")
	}
	return out
}

// isOperandEnd reports whether an operand may end with this token.
func isOperandEnd(s string) bool {
	if s == ")" {
		return true
	}
	c := s[0]
	return !token.Reserved(s) && (c == '_' || c >= '0' && c <= '9' || c >= 'a' && c <= 'z' || c >= 'A' && c <= 'Z')
}

// isUnary reports whether the token i is a unary operator.
func isUnary(l []string, i int) bool {
	return l[i] == "!" || l[i] == "-" && !isOperandEnd(l[i-1])
}

// blank reports whether there is a blank before the token i of a line.
func blank(l []string, i int) bool {
	before, x := l[i-1], l[i]
	switch {
	case strings.Contains(";,)][", x), strings.Contains("([", before), isUnary(l, i-1):
		return false
	case x == "(":
		return before == ")" || !isOperandEnd(before) // after a name it belongs to a call or a function
	}
	return true
}

// layout is P4.2 for the canonical tokens of a program: lines, tabs and blanks.
func layout(l []string) string {
	var s strings.Builder
	depth := 0
	for i, x := range l {
		if x == "}" {
			depth--
		}
		switch {
		case i == 0 || l[i-1] == ";" || l[i-1] == "{" || l[i-1] == "}" && x != "else":
			s.WriteString(strings.Repeat("\t", depth))
		case blank(l, i):
			s.WriteString(" ")
		}
		s.WriteString(x)
		if x == ";" || x == "{" || x == "}" && (i+1 == len(l) || l[i+1] != "else") {
			s.WriteString("\n")
		}
		if x == "{" {
			depth++
		}
	}
	return s.String()
}

// plain makes empty slices nil, which R5 makes no difference, in a copy.
func plain[T any](x T) T {
	out := reflect.New(reflect.TypeOf(x)).Elem()
	copyPlain(out, reflect.ValueOf(x))
	return out.Interface().(T)
}

func copyPlain(to, from reflect.Value) {
	switch from.Kind() {
	case reflect.Struct:
		for i := range from.NumField() {
			copyPlain(to.Field(i), from.Field(i))
		}
	case reflect.Slice:
		if from.Len() > 0 {
			to.Set(reflect.MakeSlice(from.Type(), from.Len(), from.Len()))
		}
		for i := range from.Len() {
			copyPlain(to.Index(i), from.Index(i))
		}
	default:
		to.Set(from)
	}
}

// isParsed is the definition of P4.1: whether a text leads to the program. If any does, then that of its canonical tokens.
func isParsed(p api.Program, tokens []string) bool {
	q, _, errno := parse.Program([]byte(strings.Join(tokens, " ")))
	return errno == api.OK && reflect.DeepEqual(plain(q), plain(p))
}

// maker makes programs by chance.
type maker struct {
	r    *rand.Rand
	left int // the number of statements that may still be made
}

func (m *maker) name() string {
	return []string{"a", "b", "x1", "_", "iff", "Lock", "abcdefghijklmnop"}[m.r.Intn(7)]
}

func (m *maker) number() int { return []int{0, 1, 7, 12, 1<<63 - 1}[m.r.Intn(5)] }

func (m *maker) expression(size int) api.Expr {
	switch {
	case size == 0 && m.r.Intn(2) == 0:
		return number(m.number())
	case size == 0:
		return name(m.name())
	case m.r.Intn(4) == 0:
		return api.Expr{Op: api.OpNegate + m.r.Intn(2), Args: []api.Expr{m.expression(size - 1)}}
	}
	left := m.r.Intn(size)
	return api.Expr{Op: api.OpMultiply + m.r.Intn(13), Args: []api.Expr{m.expression(left), m.expression(size - 1 - left)}}
}

func (m *maker) anyExpression() api.Expr { return m.expression(m.r.Intn(5)) }

func (m *maker) reference() api.Ref {
	r := api.Ref{Name: m.name()}
	if m.r.Intn(2) == 0 {
		r.Index = []api.Expr{m.anyExpression()}
	}
	return r
}

func (m *maker) arguments() []api.Arg {
	var l []api.Arg
	for range m.r.Intn(4) {
		if m.r.Intn(2) == 0 {
			l = append(l, api.Arg{Mutex: true, Ref: m.reference()})
		} else {
			l = append(l, api.Arg{Expr: m.anyExpression()})
		}
	}
	return l
}

func (m *maker) block(around int) []api.Stmt {
	var l []api.Stmt
	for m.left > 0 && m.r.Intn(4) > 0 {
		m.left--
		l = append(l, m.statement(around))
	}
	return l
}

func (m *maker) statement(around int) api.Stmt {
	s := api.Stmt{Kind: api.StmtVar + m.r.Intn(9)}
	if isBlock := s.Kind == api.StmtIf || s.Kind == api.StmtWhile; isBlock && around == api.MaxNesting-1 {
		s.Kind = api.StmtReturn
	}
	switch s.Kind {
	case api.StmtVar, api.StmtAssign:
		s.Name, s.Expr = m.name(), m.anyExpression()
	case api.StmtCall, api.StmtGo:
		s.Name, s.Args = m.name(), m.arguments()
	case api.StmtLock, api.StmtUnlock:
		s.Ref = m.reference()
	case api.StmtIf:
		s.Expr, s.Then, s.Else = m.anyExpression(), m.block(around+1), m.block(around+1)
	case api.StmtWhile:
		s.Expr, s.Then = m.anyExpression(), m.block(around+1)
	}
	return s
}

func (m *maker) program() api.Program {
	var p api.Program
	for range m.r.Intn(4) {
		p.Globals = append(p.Globals, api.Global{Name: m.name(), Init: m.number() * (1 - 2*m.r.Intn(2))})
	}
	for range m.r.Intn(4) {
		x := api.Mutex{Name: m.name(), Reentrant: m.r.Intn(2) == 0}
		if !x.Reentrant && m.r.Intn(2) == 0 {
			x.Size = 1 + m.r.Intn(api.MaxElements)
		}
		p.Mutexes = append(p.Mutexes, x)
	}
	for range m.r.Intn(4) {
		f := api.Func{Name: m.name()}
		for range m.r.Intn(4) {
			f.Params = append(f.Params, api.Param{Name: m.name(), Mutex: m.r.Intn(2) == 0})
		}
		f.Body = m.block(0)
		p.Funcs = append(p.Funcs, f)
	}
	return p
}

// places adds everything in v that may be changed.
func places(v reflect.Value, l *[]reflect.Value) {
	switch v.Kind() {
	case reflect.Struct:
		for i := range v.NumField() {
			places(v.Field(i), l)
		}
		return
	case reflect.Slice:
		for i := range v.Len() {
			places(v.Index(i), l)
		}
	}
	*l = append(*l, v)
}

// change changes one part of a program.
func (m *maker) change(p *api.Program) {
	var all []reflect.Value
	places(reflect.ValueOf(p).Elem(), &all)
	v := all[m.r.Intn(len(all))]
	switch v.Kind() {
	case reflect.Bool:
		v.SetBool(!v.Bool())
	case reflect.Int:
		v.SetInt([]int64{0, 1, 2, 3, 4, 5, 6, 7, 8, 9, 10, 18, 64, 65, -1, -1 << 63, -1<<63 + 1}[m.r.Intn(17)])
	case reflect.String:
		v.SetString([]string{"", "x", "while", "a b", "1", "x;", "abcdefghijklmnop", "abcdefghijklmnopq", "x//"}[m.r.Intn(9)])
	case reflect.Slice:
		m.changeList(v)
	}
}

func (m *maker) changeList(v reflect.Value) {
	switch n := v.Len(); m.r.Intn(5) {
	case 0:
		v.SetZero()
	case 1:
		v.Set(reflect.MakeSlice(v.Type(), 0, 0))
	case 2:
		v.Set(reflect.Append(v, reflect.Zero(v.Type().Elem())))
	case 3:
		if n > 0 {
			v.Set(v.Slice(0, n-1))
		}
	case 4:
		if n > 0 {
			v.Set(reflect.Append(v, v.Index(m.r.Intn(n))))
		}
	}
}
