package print_test

import (
	"math/rand"
	"slices"
	"strings"
	"testing"

	"lockorder/api"
	"lockorder/print"
)

// expectValid tests whether p is valid, and that Format returns its text then, and nothing otherwise.
func expectValid(t *testing.T, p api.Program, valid bool) {
	t.Helper()
	if got := print.Valid(p); got != valid {
		t.Errorf("Valid(%.200v) = %v", p, got)
	}
	want := ""
	if valid {
		want = layout(lister{}.program(p))
	}
	if got := print.Format(p); got != want {
		t.Errorf("Format(%.200v) = %.200q; want %.200q", p, got, want)
	}
}

// everywhere returns programs that contain a statement.
func everywhere(s api.Stmt) []api.Program {
	l := []api.Stmt{s}
	return []api.Program{
		body(s), body(ends, s), body(s, ends), body(inWhile(l)), body(inThen(l)), body(inElse(l)), body(ends, inElse([]api.Stmt{ends, inThen(l), ends})),
		{Funcs: []api.Func{{Name: "f"}, {Name: "g", Body: l}}}, {Funcs: []api.Func{{Name: "g", Body: l}, {Name: "f"}}},
	}
}

// withName returns programs in which s is a name, one for each place where there are names.
func withName(s string) []api.Program {
	r := api.Ref{Name: s}
	l := []api.Program{
		{Globals: []api.Global{{Name: "x"}, {Name: s}}}, {Globals: []api.Global{{Name: s, Init: 1}, {Name: "x"}}},
		{Mutexes: []api.Mutex{{Name: "x"}, {Name: s}}}, {Mutexes: []api.Mutex{{Name: s, Reentrant: true}}}, {Mutexes: []api.Mutex{{Name: s, Size: 1}}},
		{Funcs: []api.Func{{Name: s}}}, {Funcs: []api.Func{{Name: "f"}, {Name: s, Body: []api.Stmt{ends}}}},
		{Funcs: []api.Func{{Name: "f", Params: []api.Param{{Name: "x"}, {Name: s}}}}}, {Funcs: []api.Func{{Name: "f", Params: []api.Param{{Name: s, Mutex: true}, {Name: "x"}}}}},
	}
	for _, x := range []api.Stmt{
		{Kind: api.StmtVar, Name: s, Expr: x}, {Kind: api.StmtAssign, Name: s, Expr: x}, {Kind: api.StmtVar, Name: "y", Expr: name(s)}, {Kind: api.StmtAssign, Name: "y", Expr: name(s)},
		{Kind: api.StmtCall, Name: s}, {Kind: api.StmtGo, Name: s, Args: []api.Arg{{Expr: x}}}, {Kind: api.StmtCall, Name: "g", Args: []api.Arg{{Expr: x}, {Expr: name(s)}}}, {Kind: api.StmtGo, Name: "g", Args: []api.Arg{{Mutex: true, Ref: r}, {Expr: x}}}, {Kind: api.StmtCall, Name: "g", Args: []api.Arg{{Mutex: true, Ref: api.Ref{Name: "a", Index: []api.Expr{name(s)}}}}},
		{Kind: api.StmtLock, Ref: r}, {Kind: api.StmtUnlock, Ref: r}, {Kind: api.StmtLock, Ref: api.Ref{Name: s, Index: []api.Expr{x}}}, {Kind: api.StmtUnlock, Ref: api.Ref{Name: "a", Index: []api.Expr{name(s)}}},
		{Kind: api.StmtIf, Expr: name(s)}, {Kind: api.StmtWhile, Expr: name(s)},
	} {
		l = append(l, everywhere(x)...)
	}
	return l
}

func TestValidNames(t *testing.T) { // P4.1
	long := strings.Repeat("x", api.MaxName)
	for _, s := range []string{"a", "_", "Z9", "main", "iff", "If", "f", "x", long} {
		for _, p := range withName(s) {
			expectValid(t, p, true)
		}
	}
	for _, s := range []string{"", "1", "1a", " a", "a ", "a b", "a\n", "a//", "a;", "a,b", "a;var b", "+", "-a", "(a)", "a[1]", "a.b", "\xc3\xa9", "a\x00", "$", long + "x", strings.Repeat("x", api.MaxBytes+1)} {
		for _, p := range withName(s) {
			expectValid(t, p, false)
		}
	}
	for _, s := range []string{"var", "mutex", "rmutex", "func", "lock", "unlock", "go", "if", "else", "while", "return"} {
		for _, p := range withName(s) {
			expectValid(t, p, false)
		}
	}
}

func TestValidNumbers(t *testing.T) { // P4.1: Init and Size
	for _, n := range []int{0, 1, -1, 5, -5, 1<<63 - 1, -1<<63 + 1, -1 << 63} {
		expectValid(t, api.Program{Globals: []api.Global{{Name: "x", Init: n}}}, n != -1<<63)
		expectValid(t, api.Program{Globals: []api.Global{{Name: "y"}, {Name: "x", Init: n}, {Name: "y"}}}, n != -1<<63)
	}
	for _, n := range []int{0, 1, 2, 63, api.MaxElements, api.MaxElements + 1, -1, -2, 1000, -1 << 63, 1<<63 - 1} {
		expectValid(t, api.Program{Mutexes: []api.Mutex{{Name: "b"}, {Name: "a", Size: n}}}, n >= 0 && n <= api.MaxElements)
		expectValid(t, api.Program{Mutexes: []api.Mutex{{Name: "a", Size: n, Reentrant: true}, {Name: "b"}}}, n == 0)
	}
}

func TestValidLimits(t *testing.T) { // P4.1: the numbers of declarations and parameters
	for n := range 20 {
		globals, mutexes, funcs, params := make([]api.Global, n), make([]api.Mutex, n), make([]api.Func, n), make([]api.Param, n)
		for i := range n {
			globals[i].Name, mutexes[i].Name, funcs[i].Name, params[i].Name = "x", "x", "x", "x"
			mutexes[i].Reentrant = i%2 == 0
			params[i].Mutex = i%2 == 0
		}
		expectValid(t, api.Program{Globals: globals}, n <= api.MaxGlobals)
		expectValid(t, api.Program{Mutexes: mutexes}, n <= api.MaxMutexes)
		expectValid(t, api.Program{Funcs: funcs}, n <= api.MaxFuncs)
		expectValid(t, api.Program{Funcs: []api.Func{{Name: "f", Params: params}}}, n <= api.MaxParams)
		expectValid(t, api.Program{Funcs: []api.Func{{Name: "f"}, {Name: "g", Params: params}, {Name: "h"}}}, n <= api.MaxParams)
		expectValid(t, api.Program{Globals: globals, Mutexes: mutexes, Funcs: funcs}, n <= api.MaxMutexes)
		// Arguments and local variables have no limit of their own.
		expectValid(t, body(api.Stmt{Kind: api.StmtCall, Name: "g", Args: slices.Repeat([]api.Arg{{Expr: x}, {Mutex: true, Ref: a}}, n)}), true)
		expectValid(t, body(slices.Repeat([]api.Stmt{{Kind: api.StmtVar, Name: "x", Expr: x}}, 5*n)...), true)
	}
	expectValid(t, api.Program{Globals: make([]api.Global, api.MaxGlobals+1)}, false)
	expectValid(t, api.Program{}, true)
	expectValid(t, api.Program{Globals: []api.Global{}, Mutexes: []api.Mutex{}, Funcs: []api.Func{}}, true)
}

// fieldsOf has, for each kind of statements, the fields that it must have and those that it may have.
var fieldsOf = map[int][2]string{
	api.StmtVar: {"NE", ""}, api.StmtAssign: {"NE", ""}, api.StmtCall: {"N", "A"}, api.StmtGo: {"N", "A"}, api.StmtLock: {"R", ""}, api.StmtUnlock: {"R", ""}, api.StmtIf: {"E", "TL"}, api.StmtWhile: {"E", "T"}, api.StmtReturn: {"", ""},
}

func TestValidFields(t *testing.T) { // P4.1: every kind with every set of fields
	const all = "NERATL"
	for kind := -1; kind < 13; kind++ {
		fields, known := fieldsOf[kind]
		for set := range 1 << len(all) {
			s := api.Stmt{Kind: kind, Args: []api.Arg{}, Then: []api.Stmt{}, Else: []api.Stmt{}}
			valid := known
			for i, field := range all {
				has := set>>i&1 == 1
				if has {
					setField(&s, field)
				}
				must, may := strings.ContainsRune(fields[0], field), strings.ContainsRune(fields[1], field)
				valid = valid && (has && (must || may) || !has && !must)
			}
			for _, p := range everywhere(s) {
				expectValid(t, p, valid)
			}
		}
	}
	for _, kind := range []int{-1 << 63, 1<<63 - 1, 256 + api.StmtReturn} {
		expectValid(t, body(api.Stmt{Kind: kind}), false)
	}
}

func setField(s *api.Stmt, field rune) {
	switch field {
	case 'N':
		s.Name = "y"
	case 'E':
		s.Expr = sum
	case 'R':
		s.Ref = a
	case 'A':
		s.Args = []api.Arg{{Expr: x}}
	case 'T':
		s.Then = []api.Stmt{ends}
	case 'L':
		s.Else = []api.Stmt{locks}
	}
}

func TestValidStrayParts(t *testing.T) { // P4.1: a field that is not zero in any part of it is one too many
	index := []api.Expr{x}
	for _, s := range []api.Stmt{
		{Kind: api.StmtReturn, Expr: api.Expr{Op: 1}}, {Kind: api.StmtReturn, Expr: api.Expr{Num: 1}}, {Kind: api.StmtReturn, Expr: api.Expr{Name: "x"}}, {Kind: api.StmtReturn, Expr: api.Expr{Args: index}},
		{Kind: api.StmtReturn, Ref: api.Ref{Name: "a"}}, {Kind: api.StmtReturn, Ref: api.Ref{Index: index}}, {Kind: api.StmtReturn, Args: make([]api.Arg, 1)}, {Kind: api.StmtReturn, Then: make([]api.Stmt, 1)}, {Kind: api.StmtReturn, Else: make([]api.Stmt, 1)},
		{Kind: api.StmtLock, Ref: a, Expr: api.Expr{Num: -1}}, {Kind: api.StmtVar, Name: "x", Expr: x, Ref: api.Ref{Index: index}},
		{Kind: api.StmtCall, Name: "g", Args: []api.Arg{{Mutex: true, Ref: a, Expr: api.Expr{Num: 1}}}}, {Kind: api.StmtCall, Name: "g", Args: []api.Arg{{Mutex: true, Ref: a, Expr: api.Expr{Args: index}}}}, {Kind: api.StmtGo, Name: "g", Args: []api.Arg{{Expr: x, Ref: api.Ref{Index: index}}}},
	} {
		for _, p := range everywhere(s) {
			expectValid(t, p, false)
		}
	}
	// Empty lists are zero values (R5).
	none := api.Stmt{Kind: api.StmtReturn, Expr: api.Expr{Args: []api.Expr{}}, Ref: api.Ref{Index: []api.Expr{}}, Args: []api.Arg{}, Then: []api.Stmt{}, Else: []api.Stmt{}}
	locked := api.Stmt{Kind: api.StmtLock, Ref: api.Ref{Name: "a", Index: []api.Expr{}}, Expr: api.Expr{Args: []api.Expr{}}}
	expectValid(t, body(none, locked), true)
}

func TestValidArguments(t *testing.T) { // P4.1
	index := []api.Expr{sum}
	right := []api.Arg{{Expr: x}, {Expr: number(0)}, {Mutex: true, Ref: a}, {Mutex: true, Ref: api.Ref{Name: "a", Index: index}}, {Mutex: true, Ref: api.Ref{Name: "a", Index: []api.Expr{}}, Expr: api.Expr{Args: []api.Expr{}}}}
	wrong := []api.Arg{{}, {Mutex: true}, {Ref: a}, {Mutex: true, Expr: x}, {Mutex: true, Ref: a, Expr: x}, {Ref: a, Expr: x}, {Mutex: true, Ref: api.Ref{Index: index}}, {Expr: number(-1)}, {Expr: name("go")}, {Mutex: true, Ref: api.Ref{Name: "a", Index: []api.Expr{x, x}}}, {Mutex: true, Ref: api.Ref{Name: "a", Index: make([]api.Expr, 1)}}}
	for _, kind := range []int{api.StmtCall, api.StmtGo} {
		call := func(l ...api.Arg) api.Program { return body(api.Stmt{Kind: kind, Name: "g", Args: l}) }
		for _, first := range right {
			expectValid(t, call(first), true)
			for _, second := range right {
				expectValid(t, call(first, second), true)
				expectValid(t, call(first, second, first), true)
			}
			for _, bad := range wrong {
				expectValid(t, call(bad), false)
				expectValid(t, call(first, bad), false)
				expectValid(t, call(bad, first), false)
			}
		}
	}
}

func TestValidExpressions(t *testing.T) { // P4.1: wherever an expression stands, and an Index of at most one
	minus := func(n int) api.Expr {
		e := x
		for range n {
			e = api.Expr{Op: api.OpNegate, Args: []api.Expr{e}}
		}
		return e
	}
	for _, test := range []struct {
		e     api.Expr
		valid bool
	}{
		{x, true}, {sum, true}, {number(0), true}, {number(1<<63 - 1), true}, {minus(api.MaxNesting), true}, {minus(api.MaxNesting + 1), false}, {number(-1), false}, {api.Expr{}, false}, {api.Expr{Op: api.OpLocal}, false}, {api.Expr{Op: api.OpGlobal, Num: 1}, false},
		{api.Expr{Op: api.OpAdd, Args: []api.Expr{x}}, false}, {api.Expr{Op: api.OpNot, Args: []api.Expr{x, x}}, false}, {api.Expr{Op: api.OpName, Name: "x", Num: 1}, false}, {api.Expr{Op: api.OpAdd, Args: []api.Expr{x, {}}}, false},
	} {
		index := []api.Expr{test.e}
		for _, s := range []api.Stmt{
			{Kind: api.StmtVar, Name: "y", Expr: test.e}, {Kind: api.StmtAssign, Name: "y", Expr: test.e}, {Kind: api.StmtIf, Expr: test.e}, {Kind: api.StmtWhile, Expr: test.e},
			{Kind: api.StmtLock, Ref: api.Ref{Name: "a", Index: index}}, {Kind: api.StmtUnlock, Ref: api.Ref{Name: "a", Index: index}},
			{Kind: api.StmtCall, Name: "g", Args: []api.Arg{{Expr: test.e}}}, {Kind: api.StmtGo, Name: "g", Args: []api.Arg{{Expr: x}, {Expr: test.e}, {Expr: x}}}, {Kind: api.StmtGo, Name: "g", Args: []api.Arg{{Mutex: true, Ref: api.Ref{Name: "a", Index: index}}}},
		} {
			for _, p := range everywhere(s) {
				expectValid(t, p, test.valid)
			}
		}
		for _, l := range [][]api.Expr{{test.e, test.e}, {x, test.e}, {test.e, x}, {x, x, test.e}} {
			expectValid(t, body(api.Stmt{Kind: api.StmtLock, Ref: api.Ref{Name: "a", Index: l}}), false)
			expectValid(t, body(api.Stmt{Kind: api.StmtUnlock, Ref: api.Ref{Name: "a", Index: l}}), false)
		}
	}
}

func TestValidNesting(t *testing.T) { // P4.1: blocks are enclosed by fewer than MaxNesting others, empty ones too
	r := rand.New(rand.NewSource(1))
	mixed := func(l []api.Stmt) api.Stmt { return puts[r.Intn(3)](l) }
	behind := func(l []api.Stmt) api.Stmt { return mixed(append([]api.Stmt{ends}, l...)) }
	for _, put := range append(slices.Clip(puts), mixed, behind) {
		for n := range api.MaxNesting + 4 {
			for _, inner := range [][]api.Stmt{nil, {ends}, {locks, ends}} {
				for _, p := range []api.Program{body(nest(n, inner, put)...), body(append([]api.Stmt{inWhile(nil), ends}, nest(n, inner, put)...)...)} {
					expectValid(t, p, n < api.MaxNesting)
				}
			}
			// Two deep blocks of one statement, the second of which decides.
			both := api.Stmt{Kind: api.StmtIf, Expr: x, Then: []api.Stmt{ends}, Else: nest(n, nil, put)}
			expectValid(t, body(both), n < api.MaxNesting-1)
			both.Then, both.Else = both.Else, both.Then
			expectValid(t, body(both), n < api.MaxNesting-1)
		}
	}
}

// parts are programs that have one part more than an empty function, for each of the parts that a program may have.
func parts() []api.Program {
	product := api.Expr{Op: api.OpMultiply, Args: []api.Expr{sum, {Op: api.OpNegate, Args: []api.Expr{sum}}}}
	index := []api.Expr{product}
	element := api.Ref{Name: "a", Index: index}
	args := []api.Arg{{Expr: x}, {Expr: product}, {Mutex: true, Ref: a}, {Mutex: true, Ref: element}}
	then := []api.Stmt{locks}
	var l []api.Program
	for _, s := range []api.Stmt{
		{Kind: api.StmtVar, Name: "x", Expr: x}, {Kind: api.StmtVar, Name: "x", Expr: product}, {Kind: api.StmtAssign, Name: "x", Expr: number(12345)}, {Kind: api.StmtAssign, Name: "x", Expr: product},
		{Kind: api.StmtCall, Name: "g"}, {Kind: api.StmtCall, Name: "g", Args: args[:1]}, {Kind: api.StmtCall, Name: "g", Args: args[:2]}, {Kind: api.StmtCall, Name: "g", Args: args}, {Kind: api.StmtGo, Name: "g"}, {Kind: api.StmtGo, Name: "g", Args: args},
		{Kind: api.StmtLock, Ref: a}, {Kind: api.StmtLock, Ref: element}, {Kind: api.StmtUnlock, Ref: a}, {Kind: api.StmtUnlock, Ref: element},
		{Kind: api.StmtIf, Expr: x}, {Kind: api.StmtIf, Expr: product, Then: then}, {Kind: api.StmtIf, Expr: x, Else: then}, {Kind: api.StmtIf, Expr: x, Then: then, Else: then}, {Kind: api.StmtWhile, Expr: x}, {Kind: api.StmtWhile, Expr: product, Then: then}, ends,
	} {
		l = append(l, body(s))
	}
	for _, g := range []api.Global{{Name: "x"}, {Name: "x", Init: 5}, {Name: "x", Init: -5}} {
		p := body()
		p.Globals = []api.Global{g}
		l = append(l, p)
	}
	for _, m := range []api.Mutex{{Name: "a"}, {Name: "a", Reentrant: true}, {Name: "a", Size: 3}} {
		p := body()
		p.Mutexes = []api.Mutex{m}
		l = append(l, p)
	}
	for n := range api.MaxParams + 1 {
		p := body()
		p.Funcs[0].Params = []api.Param{{Name: "a"}, {Name: "b"}, {Name: "c", Mutex: true}, {Name: "d"}, {Name: "e", Mutex: true}, {Name: "f", Mutex: true}}[:n]
		l = append(l, p)
		p.Funcs = append(p.Funcs, p.Funcs[0])
		l = append(l, p)
	}
	return l
}

// fill adds statements to the first function, so that the program has n tokens.
func fill(p api.Program, n int) api.Program {
	missing := n - len(lister{}.program(p))
	l := slices.Clip(p.Funcs[0].Body)
	if missing%2 == 1 {
		l = append(l, locks) // 3 tokens
		missing -= 3
	}
	funcs := slices.Clone(p.Funcs)
	funcs[0].Body = append(l, slices.Repeat([]api.Stmt{ends}, missing/2)...)
	p.Funcs = funcs
	return p
}

func TestValidTokens(t *testing.T) { // P4.1: at most MaxTokens tokens, whatever they belong to
	for _, p := range parts() {
		for n := api.MaxTokens - 2; n <= api.MaxTokens+3; n++ {
			full := fill(p, n)
			if got := len(lister{}.program(full)); got != n {
				t.Fatalf("the program has %d tokens; want %d", got, n)
			}
			expectValid(t, full, n <= api.MaxTokens)
		}
	}
}

// chain returns n operators in a row, each with another operand on its right.
func chain(n, op int, right api.Expr) api.Expr {
	e := x
	for range n {
		e = api.Expr{Op: op, Args: []api.Expr{e, right}}
	}
	return e
}

func TestValidTokensOfOne(t *testing.T) { // P4.1: nearly all tokens in one expression, or in one list of arguments
	near := func(n, each int) bool {
		s := []api.Stmt{
			{Kind: api.StmtAssign, Name: "x", Expr: chain(n, api.OpAdd, x)}, {Kind: api.StmtWhile, Expr: chain(n, api.OpMultiply, sum)},
			{Kind: api.StmtCall, Name: "g", Args: slices.Repeat([]api.Arg{{Expr: x}}, n)}, {Kind: api.StmtGo, Name: "g", Args: slices.Repeat([]api.Arg{{Mutex: true, Ref: a}}, n)}, {Kind: api.StmtCall, Name: "g", Args: slices.Repeat([]api.Arg{{Mutex: true, Ref: api.Ref{Name: "a", Index: []api.Expr{x}}}}, n)},
		}[each]
		tokens := len(lister{}.program(body(s)))
		expectValid(t, body(s), tokens <= api.MaxTokens)
		return tokens <= api.MaxTokens
	}
	for i, each := range []int{2, 6, 2, 3, 6} { // the tokens that each of n adds
		from := api.MaxTokens/each - 8
		if !near(from, i) || near(from+12, i) {
			t.Errorf("the limit of the statement %d is not near %d", i, from)
		}
		for n := range 12 {
			near(from+n, i)
		}
	}
}

func TestValidBytes(t *testing.T) { // P4.4: as many tokens as there may be have at most MaxBytes bytes
	long := strings.Repeat("x", api.MaxName)
	e := api.Expr{Op: api.OpLessEqual, Args: []api.Expr{number(1<<63 - 1), number(1<<63 - 1)}}
	for _, s := range []api.Stmt{
		ends, {Kind: api.StmtUnlock, Ref: api.Ref{Name: long}}, {Kind: api.StmtAssign, Name: long, Expr: number(1<<63 - 1)}, {Kind: api.StmtVar, Name: long, Expr: e}, {Kind: api.StmtCall, Name: long}, {Kind: api.StmtGo, Name: long, Args: []api.Arg{{Mutex: true, Ref: api.Ref{Name: long}}}},
	} {
		free := api.MaxTokens - len(lister{}.program(body(nest(api.MaxNesting-1, nil, inWhile)...)))
		inner := slices.Repeat([]api.Stmt{s}, free/len(lister{}.statement(s)))
		p := body(nest(api.MaxNesting-1, inner, inWhile)...)
		expectValid(t, p, true)
		if n := len(print.Format(p)); n > api.MaxBytes {
			t.Errorf("the text has %d bytes", n)
		}
	}
}

func TestShared(t *testing.T) { // R1: lists that share memory, so that there are more parts than could be counted, or that contain themselves
	wide := []api.Stmt{ends}
	for range api.MaxNesting - 1 {
		wide = slices.Repeat([]api.Stmt{inThen(wide), inElse(wide), inWhile(wide)}, 1000)
	}
	expectShort(t, body(wide...))
	e := x
	for range api.MaxNesting {
		for _, op := range []int{api.OpMultiply, api.OpAdd, api.OpLess, api.OpAnd, api.OpOr} {
			e = api.Expr{Op: op, Args: []api.Expr{e, e}}
		}
	}
	endless := api.Expr{Op: api.OpAdd, Args: []api.Expr{x, x}}
	endless.Args[0] = endless
	for _, big := range []api.Expr{e, endless} {
		for _, s := range []api.Stmt{{Kind: api.StmtWhile, Expr: big}, {Kind: api.StmtLock, Ref: api.Ref{Name: "a", Index: []api.Expr{big}}}, {Kind: api.StmtCall, Name: "g", Args: []api.Arg{{Expr: big}}}} {
			expectShort(t, body(s))
		}
	}
	for _, put := range puts {
		loop := []api.Stmt{ends, ends}
		loop[0] = put(loop)
		expectShort(t, body(loop...))
	}
	args := slices.Repeat([]api.Arg{{Mutex: true, Ref: a}}, 50000)
	expectShort(t, body(slices.Repeat([]api.Stmt{{Kind: api.StmtGo, Name: "g", Args: args}}, 50000)...))
}

// expectShort tests that a program that is far too large to be printed, even by a test, is not valid.
func expectShort(t *testing.T, p api.Program) {
	t.Helper()
	if print.Valid(p) || print.Format(p) != "" {
		t.Error("a program that is far too large is valid")
	}
}
