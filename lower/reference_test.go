package lower_test

import (
	"math/rand"
	"regexp"
	"slices"
	"strconv"
	"strings"
)

// entry is a name with what a listing calls it. It is visible up to the next line that is indented by fewer tabs.
type entry struct {
	name, called string
	tabs         int
}

// reader is P6.1 to P6.3 for the canonical text of a program that is right. Each line of it is a declaration, a statement or the end of a block, so neither a tree nor targets that are filled in later are needed.
type reader struct {
	visible []entry
	listing []string
}

var nameOrWord = regexp.MustCompile("[a-zA-Z_][a-zA-Z_0-9]*")

// rename returns a text with the names that a listing has.
func (r *reader) rename(s string) string {
	return nameOrWord.ReplaceAllStringFunc(s, func(name string) string {
		for _, e := range r.visible {
			if e.name == name {
				return e.called
			}
		}
		return name
	})
}

func (r *reader) declare(name, kind string, number, tabs int) {
	r.visible = append(r.visible, entry{name, kind + strconv.Itoa(number), tabs})
}

// reference returns the listing of the program with this text.
func reference(text string) []string {
	r := &reader{listing: []string{""}}
	lines := strings.Split(strings.TrimSuffix(text, "\n"), "\n")
	count := map[string]int{}
	for _, line := range lines {
		l := nameOrWord.FindAllString(line, 2)
		if kind := map[string]string{"var": "g", "mutex": "m", "rmutex": "m", "func": "f"}[strings.SplitN(line, " ", 2)[0]]; kind != "" {
			r.declare(l[1], kind, count[kind], 0)
			count[kind]++
		}
	}
	r.listing[0] = "main " + r.rename("main")
	for len(lines) > 0 {
		n := 1
		if strings.HasPrefix(lines[0], "func ") {
			n = slices.Index(lines, "}") + 1
			r.function(lines[:n])
		} else {
			r.declaration(strings.TrimSuffix(lines[0], ";"))
		}
		lines = lines[n:]
	}
	return r.listing
}

// declaration lists a global variable or a mutex.
func (r *reader) declaration(line string) {
	word, line, _ := strings.Cut(line, " ")
	name := nameOrWord.FindString(line)
	rest := line[len(name):]
	if word == "var" {
		rest = strings.TrimPrefix(rest, " = ")
		if rest == "" {
			rest = "0"
		}
		r.listing = append(r.listing, r.rename(name)+" = "+rest)
		return
	}
	if rest == "" {
		rest = "0"
	}
	r.listing = append(r.listing, r.rename(name)+" = "+name+" "+strconv.FormatBool(word == "rmutex")+" "+strings.Trim(rest, "[]"))
}

func tabs(line string) int { return len(line) - len(strings.TrimLeft(line, "\t")) }

func closes(line string) bool { return strings.HasPrefix(strings.TrimLeft(line, "\t"), "}") }

// opener returns the number of the line with which the block began that the line i closes, or of the if that the line i belongs to.
func opener(lines []string, i int) int {
	j := i - 1
	for closes(lines[j]) || tabs(lines[j]) != tabs(lines[i]) {
		j--
	}
	return j
}

// closer returns the number of the line that closes the block that the line i opens.
func closer(lines []string, i int) int {
	j := i + 1
	for !closes(lines[j]) || tabs(lines[j]) != tabs(lines[i]) {
		j++
	}
	return j
}

// isWhile reports whether the line i begins or closes a StmtWhile.
func isWhile(lines []string, i int) bool {
	if closes(lines[i]) {
		i = opener(lines, i)
	}
	return strings.HasPrefix(strings.TrimLeft(lines[i], "\t"), "while ")
}

// address returns the number of instructions of the lines before the line i, all of which have one, except the first one and those that close a StmtIf.
func address(lines []string, i int) int {
	n := 0
	for j := 1; j < i; j++ {
		if !closes(lines[j]) || strings.HasSuffix(lines[j], "{") || isWhile(lines, j) {
			n++
		}
	}
	return n
}

// site returns the number of the statement to which the line i belongs.
func site(lines []string, i int) int {
	if i < len(lines)-1 && closes(lines[i]) {
		i = opener(lines, i)
	}
	n := 0
	for j := 1; j < i; j++ {
		if !closes(lines[j]) {
			n++
		}
	}
	return n
}

// function lists a function.
func (r *reader) function(lines []string) {
	open := strings.Index(lines[0], "(")
	name := lines[0][len("func "):open]
	ints, locks := 0, 0
	for param := range strings.SplitSeq(strings.TrimSuffix(lines[0][open+1:], ") {"), ", ") {
		if mutex, ok := strings.CutPrefix(param, "mutex "); ok {
			r.declare(mutex, "p", locks, 1)
			locks++
		} else if param != "" {
			r.declare(param, "l", ints, 1)
			ints++
		}
	}
	header := len(r.listing)
	r.listing = append(r.listing, "")
	locals := ints
	for i, line := range lines[1:] {
		words := strings.TrimLeft(line, "\t")
		r.visible = slices.DeleteFunc(r.visible, func(e entry) bool { return e.tabs > tabs(line) })
		if strings.HasPrefix(words, "var ") {
			r.declare(nameOrWord.FindAllString(words, 2)[1], "l", locals, tabs(line))
			locals++
		}
		if text := r.line(lines, i+1, words); text != "" {
			r.listing = append(r.listing, strconv.Itoa(address(lines, i+1))+" "+strconv.Itoa(site(lines, i+1))+" "+text)
		}
	}
	r.listing[header] = r.rename(name) + " = " + name + " " + strconv.Itoa(ints) + " " + strconv.Itoa(locks) + " " + strconv.Itoa(locals)
}

// line returns the instruction of the line i, or "" if it has none.
func (r *reader) line(lines []string, i int, words string) string {
	if i == len(lines)-1 {
		return "return"
	}
	first, rest, _ := strings.Cut(words, " ")
	switch {
	case first == "if" || first == "while":
		return "branch " + strconv.Itoa(address(lines, closer(lines, i)+1)) + " unless " + r.rename(strings.TrimSuffix(rest, " {"))
	case words == "} else {":
		return "jump " + strconv.Itoa(address(lines, closer(lines, i)))
	case words == "}" && isWhile(lines, i):
		return "jump " + strconv.Itoa(address(lines, opener(lines, i)))
	case words == "}":
		return ""
	}
	words = r.rename(strings.TrimSuffix(strings.TrimPrefix(words, "var "), ";"))
	if isCall := words[0] == 'f' || first == "go"; isCall {
		return call(words)
	}
	return words
}

// call returns the instruction of a line such as "go f1(l0, mutex m1)".
func call(words string) string {
	head, args, _ := strings.Cut(words, "(")
	if !strings.HasPrefix(head, "go ") {
		head = "call " + head
	}
	var ints, locks []string
	for arg := range strings.SplitSeq(strings.TrimSuffix(args, ")"), ", ") {
		if mutex, ok := strings.CutPrefix(arg, "mutex "); ok {
			locks = append(locks, mutex)
		} else if arg != "" {
			ints = append(ints, arg)
		}
	}
	return head + " (" + strings.Join(ints, ", ") + ") (" + strings.Join(locks, ", ") + ")"
}

// maker makes the texts of right programs by chance.
type maker struct {
	r       *rand.Rand
	visible []string   // all names
	ints    []string   // those of integer variables
	mutexes []string   // those of mutexes, arrays with an open bracket behind the name
	funcs   [][]string // for each function its name and the sorts of its parameters
	left    int        // the number of statements that may still be made
}

func (m *maker) pick(l []string) string { return l[m.r.Intn(len(l))] }

// fresh declares a name that is not visible. There are few of them, so that names return in other blocks and functions.
func (m *maker) fresh() string {
	for {
		name := string(rune('a'+m.r.Intn(26))) + []string{"", "_", "1"}[m.r.Intn(3)]
		if !slices.Contains(m.visible, name) {
			m.visible = append(m.visible, name)
			return name
		}
	}
}

func (m *maker) expression() string {
	if m.r.Intn(3) == 0 {
		return "(" + m.expression() + m.pick(strings.Fields("* / % + - < <= > >= == != && ||")) + m.expression() + ")"
	}
	s := m.pick([]string{"", "", "", "-", "!"})
	if len(m.ints) > 0 && m.r.Intn(4) > 0 {
		return s + m.pick(m.ints)
	}
	return s + strconv.Itoa(m.r.Intn(12))
}

func (m *maker) reference() string {
	s := m.pick(m.mutexes)
	if strings.HasSuffix(s, "[") {
		s += m.expression() + "]"
	}
	return s
}

func (m *maker) call() string {
	f := m.funcs[m.r.Intn(len(m.funcs))]
	var args []string
	for _, sort := range f[1:] {
		if sort == "mutex " {
			args = append(args, sort+m.reference())
		} else {
			args = append(args, m.expression())
		}
	}
	return f[0] + "(" + strings.Join(args, ",") + ");"
}

func (m *maker) block(depth int) string {
	s := "{"
	visible, ints := len(m.visible), len(m.ints)
	for m.left > 0 && m.r.Intn(4) > 0 {
		m.left--
		s += m.statement(depth)
	}
	m.visible, m.ints = m.visible[:visible], m.ints[:ints]
	return s + "}"
}

func (m *maker) statement(depth int) string {
	kind := m.r.Intn(9)
	switch {
	case kind == 0:
		value, name := m.expression(), m.fresh()
		m.ints = append(m.ints, name)
		return "var " + name + "=" + value + ";"
	case kind == 1 && len(m.ints) > 0:
		return m.pick(m.ints) + "=" + m.expression() + ";"
	case kind == 2:
		return m.call()
	case kind == 3:
		return "go " + m.call()
	case kind == 4:
		return "lock " + m.reference() + ";"
	case kind == 5:
		return "unlock " + m.reference() + ";"
	case kind == 6 && depth > 0:
		return "if " + m.expression() + m.block(depth-1)
	case kind == 7 && depth > 0:
		return "if " + m.expression() + m.block(depth-1) + "else" + m.block(depth-1)
	case kind == 8 && depth > 0:
		return "while " + m.expression() + m.block(depth-1)
	}
	return "return;"
}

// program makes a program with its declarations in any order.
func (m *maker) program() string {
	*m = maker{r: m.r, left: m.r.Intn(40), visible: []string{"main"}}
	var l []string
	for range m.r.Intn(4) {
		name := m.fresh()
		m.ints = append(m.ints, name)
		l = append(l, "var "+name+m.pick([]string{"", "=7", "=-7"})+";")
	}
	for range 1 + m.r.Intn(3) {
		name := m.fresh()
		size := m.r.Intn(4)
		if size > 0 {
			m.mutexes = append(m.mutexes, name+"[")
			l = append(l, "mutex "+name+"["+strconv.Itoa(size)+"];")
		} else {
			m.mutexes = append(m.mutexes, name)
			l = append(l, m.pick([]string{"mutex ", "rmutex "})+name+";")
		}
	}
	m.funcs = [][]string{{"main"}}
	for range m.r.Intn(4) {
		f := []string{m.fresh()}
		for range m.r.Intn(5) {
			f = append(f, m.pick([]string{"", "mutex "}))
		}
		m.funcs = append(m.funcs, f)
	}
	for _, f := range m.funcs {
		l = append(l, m.function(f))
	}
	m.r.Shuffle(len(l), func(i, j int) { l[i], l[j] = l[j], l[i] })
	return strings.Join(l, "")
}

func (m *maker) function(f []string) string {
	visible, ints, mutexes := len(m.visible), len(m.ints), len(m.mutexes)
	var params []string
	for _, sort := range f[1:] {
		name := m.fresh()
		if sort == "" {
			m.ints = append(m.ints, name)
		} else {
			m.mutexes = append(m.mutexes, name)
		}
		params = append(params, sort+name)
	}
	s := "func " + f[0] + "(" + strings.Join(params, ",") + ")" + m.block(5)
	m.visible, m.ints, m.mutexes = m.visible[:visible], m.ints[:ints], m.mutexes[:mutexes]
	return s
}
