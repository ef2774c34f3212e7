package parse_test

import (
	"reflect"
	"strings"
	"testing"

	"lockorder/api"
	"lockorder/parse"
)

var (
	x    = name("x")
	y    = name("y")
	end  = api.Token{Kind: api.TokenEnd}
	ends = []api.Stmt{{Kind: api.StmtReturn}}
)

func name(s string) api.Expr { return api.Expr{Op: api.OpName, Name: s} }

func number(n int) api.Expr { return api.Expr{Op: api.OpNumber, Num: n} }

// plain makes empty slices nil, which R5 makes no difference.
func plain(v any) any {
	out := reflect.New(reflect.TypeOf(v)).Elem()
	out.Set(reflect.ValueOf(v))
	clean(out)
	return out.Interface()
}

func clean(v reflect.Value) {
	switch v.Kind() {
	case reflect.Struct:
		for i := range v.NumField() {
			clean(v.Field(i))
		}
	case reflect.Slice:
		if v.Len() == 0 {
			v.SetZero()
			return
		}
		fresh := reflect.MakeSlice(v.Type(), v.Len(), v.Len())
		reflect.Copy(fresh, v)
		for i := range fresh.Len() {
			clean(fresh.Index(i))
		}
		v.Set(fresh)
	}
}

// expectProgram tests that a text has this program.
func expectProgram(t *testing.T, s string, want api.Program) {
	t.Helper()
	p, n, errno := parse.Program([]byte(s))
	if n != len(s) || errno != api.OK || !reflect.DeepEqual(plain(p), want) {
		t.Errorf("Program(%q) = %v, %d, %d; want %v, %d, OK", s, p, n, errno, want, len(s))
	}
}

// expectOffset tests the offset and the error of Program, and that there is no program with an error.
func expectOffset(t *testing.T, s string, n int, errno api.Errno) {
	t.Helper()
	p, gotN, got := parse.Program([]byte(s))
	if gotN != n || got != errno {
		t.Errorf("Program(%.90q) = %d, %d; want %d, %d", s, gotN, got, n, errno)
	}
	if got != api.OK && !reflect.DeepEqual(plain(p), api.Program{}) {
		t.Errorf("Program(%.90q) has an error and the program %v", s, p)
	}
}

// expectMark tests that Program finds the error at the mark @, which is not part of the text.
func expectMark(t *testing.T, marked string, errno api.Errno) {
	t.Helper()
	before, after, ok := strings.Cut(marked, "@")
	if !ok {
		t.Fatalf("%q has no mark", marked)
	}
	expectOffset(t, before+after, len(before), errno)
}

// expectStmts tests that a block has these statements, in Block and in Program.
func expectStmts(t *testing.T, s string, want ...api.Stmt) {
	t.Helper()
	l := lex("{" + s + "} }")
	got, n, errno := parse.Block(l, 0)
	if n != len(l)-2 || errno != api.OK || !reflect.DeepEqual(plain(got), want) {
		t.Errorf("Block({%s}) = %v, %d, %d; want %v, %d, OK", s, got, n, errno, want, len(l)-2)
	}
	expectProgram(t, "func f() {"+s+"}", api.Program{Funcs: []api.Func{{Name: "f", Body: want}}})
}

// expectIndex tests the index and the error of Block, and that there are no statements with an error.
func expectIndex(t *testing.T, l []api.Token, at, n int, errno api.Errno) {
	t.Helper()
	got, gotN, gotErrno := parse.Block(l, at)
	if gotN != n || gotErrno != errno {
		t.Errorf("Block(%.90q, %d) = %d, %d; want %d, %d", texts(l), at, gotN, gotErrno, n, errno)
	}
	if gotErrno != api.OK && len(got) > 0 {
		t.Errorf("Block(%.90q, %d) has an error and the statements %v", texts(l), at, got)
	}
}

// expectMisfit tests that ErrSyntax occurs at the mark @ in a block, in Block and in Program.
func expectMisfit(t *testing.T, marked string) {
	t.Helper()
	before, after, _ := strings.Cut(marked, "@")
	expectIndex(t, lex(before+after), 0, len(lex(before))-1, api.ErrSyntax)
	expectMark(t, "func f()"+marked, api.ErrSyntax)
}

func texts(l []api.Token) string {
	var out []string
	for _, t := range l {
		out = append(out, t.Text)
	}
	return strings.Join(out, " ")
}

func TestGlobals(t *testing.T) { // P3.1, P3.3
	for s, init := range map[string]int{
		"var x;": 0, "var x = 0;": 0, "var x = 5;": 5, "var x = 005;": 5, "var x = -0;": 0, "var x = -5;": -5, "var x=- 7;": -7,
		"var x = 9223372036854775807;": 1<<63 - 1, "var x = -9223372036854775807;": -(1<<63 - 1),
	} {
		expectProgram(t, s, api.Program{Globals: []api.Global{{Name: "x", Init: init}}})
	}
	for _, s := range []string{
		"var@", "var @;", "var @1;", "var @if;", "var @var x;", "var x@", "var x @y;", "var x @, y;", "var x @5;", "var x @== 5;", "var x @[2];", "var x @- 5;", "var x @func",
		"var x = @", "var x = @;", "var x = @y;", "var x = @(5);", "var x = @!5;", "var x = @+5;", "var x = @= 5;", "var x = - @;", "var x = - @- 5;", "var x = - @y;", "var x = -@", "var x = 5@", "var x = 5 @+ 1;", "var x = -5 @5;", "var x = 5 @}",
	} {
		expectMark(t, s, api.ErrSyntax)
	}
}

func TestMutexes(t *testing.T) { // P3.1, P3.3
	expectProgram(t, "mutex a; rmutex b; mutex c[1]; mutex d[064];", api.Program{Mutexes: []api.Mutex{{Name: "a"}, {Name: "b", Reentrant: true}, {Name: "c", Size: 1}, {Name: "d", Size: 64}}})
	for _, s := range []string{
		"mutex@", "mutex @;", "mutex @lock;", "mutex @[3];", "mutex @7;", "mutex a@", "mutex a @= 1;", "mutex a @(3);", "mutex a @3;", "mutex a @, b;", "mutex a @]",
		"mutex a[@", "mutex a[@];", "mutex a[@x];", "mutex a[@-1];", "mutex a[@(3)];", "mutex a[3@", "mutex a[3 @+ 1];", "mutex a[3@;", "mutex a[3@[", "mutex a[3@)", "mutex a[3]@", "mutex a[3]@[3];", "mutex a[3] @= 1;",
		"rmutex@", "rmutex @;", "rmutex @mutex a;", "rmutex b@", "rmutex b@[2];", "rmutex b@[0];", "rmutex b @= 1;", "mutex @rmutex b;",
	} {
		expectMark(t, s, api.ErrSyntax)
	}
}

func TestElements(t *testing.T) { // P3.3: the number of an array
	for _, s := range []string{"0", "00", "65", "065", "1000", "9223372036854775807"} {
		expectMark(t, "mutex a[@"+s+"];", api.ErrLimit)
		expectMark(t, "func f(){} mutex a[@"+s+" x", api.ErrLimit)
		expectMark(t, "mutex b[2]; mutex a[@"+s, api.ErrLimit)
	}
	for _, s := range []string{"1", "2", "63", "64", "0064"} {
		expectOffset(t, "mutex a["+s+"];", len(s)+10, api.OK)
	}
}

func TestFunctions(t *testing.T) { // P3.1, P3.3
	n, m := api.Param{Name: "n"}, api.Param{Name: "m", Mutex: true}
	for s, want := range map[string][]api.Param{"": nil, "n": {n}, "mutex m": {m}, "n, mutex m": {n, m}, "mutex m, n": {m, n}, "n,n": {n, n}, "mutex m,mutex m,n": {m, m, n}} {
		expectProgram(t, "func f("+s+") {}", api.Program{Funcs: []api.Func{{Name: "f", Params: want}}})
		expectProgram(t, "func f("+s+") { return; }", api.Program{Funcs: []api.Func{{Name: "f", Params: want, Body: ends}}})
	}
	for _, s := range []string{
		"func@", "func @(){}", "func @func f(){}", "func @1(){}", "func f@", "func f @{}", "func f @;", "func f @g(){}", "func f(@", "func f(@,){}", "func f(@1){}", "func f(@if){}", "func f(@rmutex m){}", "func f(@(n)){}", "func f(@{}",
		"func f(n@", "func f(n @m){}", "func f(n @mutex m){}", "func f(n @= 1){}", "func f(n@[1]){}", "func f(n@;", "func f(n,@", "func f(n,@){}", "func f(n,@,m){}", "func f(n,@1){}", "func f(mutex@", "func f(mutex @){}", "func f(mutex @,n){}", "func f(mutex @mutex m){}", "func f(mutex @1){}", "func f(mutex m@[1]){}", "func f(mutex m@",
		"func f()@", "func f()@;", "func f() @x = 1;", "func f() @} ", "func f() @func g(){}", "func f() @return;", "func f(){} @;", "func f(){} @}", "func f(){} @{}", "func f(){} @else {}",
	} {
		expectMark(t, s, api.ErrSyntax)
	}
}

func TestParameterLimit(t *testing.T) { // P3.3
	for _, six := range []string{"a,b,c,d,e,f", "a,a,a,a,a,a", "mutex a,b,mutex c,d,mutex e,f", "mutex a,mutex b,mutex c,mutex d,mutex e,mutex f"} {
		expectOffset(t, "func f("+six+"){}", len(six)+10, api.OK)
		expectOffset(t, "func f("+six+"){} func g("+six+"){}", 2*len(six)+21, api.OK)
		for _, rest := range []string{"@g){}", "@mutex g){}", "@mutex", "@mutex mutex", "@g", "@g,h){}"} {
			expectMark(t, "func f("+six+","+rest, api.ErrLimit)
		}
		for _, rest := range []string{"@", " @g", ",@", ",@)", ",@,g", ",@1", ",@rmutex g"} {
			expectMark(t, "func f("+six+rest, api.ErrSyntax)
		}
	}
	seven := strings.Repeat("mutex x, 1, ", 7)
	expectOffset(t, "func f() { g("+seven+"x); }", len(seven)+18, api.OK)
}

func TestDeclarationOrder(t *testing.T) { // P3.1, P3.3: any order, each kind in its own order
	f, g := api.Func{Name: "f"}, api.Func{Name: "g", Body: ends}
	want := api.Program{
		Globals: []api.Global{{Name: "y"}, {Name: "x", Init: 1}, {Name: "y", Init: -2}},
		Mutexes: []api.Mutex{{Name: "b", Reentrant: true}, {Name: "a"}, {Name: "c", Size: 2}},
		Funcs:   []api.Func{g, f},
	}
	expectProgram(t, "func g() { return; } var y; rmutex b; var x = 1; mutex a; func f() { } mutex c[2]; var y = -2;", want)
	expectProgram(t, "mutex c; var c; func c(){} rmutex c;", api.Program{Globals: []api.Global{{Name: "c"}}, Mutexes: []api.Mutex{{Name: "c"}, {Name: "c", Reentrant: true}}, Funcs: []api.Func{{Name: "c"}}})
}

func TestNoDeclaration(t *testing.T) { // P3.3
	for _, s := range []string{"", " ", "\n\t", "// var x;", "//\n//"} {
		expectProgram(t, s, api.Program{})
	}
	for _, s := range []string{"x", "x = 1;", "1", ";", "}", "{ }", "( )", "lock a;", "return;", "if", "else", "while", "go f();", "unlock", "=", "rvar x;", "Func f(){}"} {
		expectMark(t, "@"+s, api.ErrSyntax)
		expectMark(t, "var x;@"+s, api.ErrSyntax)
		expectMark(t, "func f(){} // c\n @"+s, api.ErrSyntax)
	}
}

func TestDeclarationLimits(t *testing.T) { // P3.3
	globals := strings.Repeat("var x; var y = -1;", api.MaxGlobals/2)
	mutexes := strings.Repeat("mutex a; rmutex b; mutex c[3];", api.MaxMutexes/3)
	funcs := strings.Repeat("func f(){} func g(n){ f(); }", api.MaxFuncs/2)
	all := globals + mutexes + funcs
	expectOffset(t, all, len(all), api.OK)
	expectOffset(t, funcs+mutexes+globals, len(all), api.OK)
	for first, words := range map[string][]string{globals: {"var"}, mutexes: {"mutex", "rmutex"}, funcs: {"func"}} {
		for _, word := range words {
			for _, rest := range []string{"", " x;", " 1", ";", " x[0];", " x(a,b,c,d,e,f,g){", " if"} {
				expectMark(t, first+"@"+word+rest, api.ErrLimit)
				expectMark(t, all+"@"+word+rest, api.ErrLimit)
			}
		}
	}
	expectMark(t, globals+"@x", api.ErrSyntax)
	expectMark(t, globals+"mutex a; @var y;", api.ErrLimit)
	expectMark(t, globals+"mutex a[@0]; var y;", api.ErrLimit)
	expectMark(t, globals+"mutex a @var y;", api.ErrSyntax)
	locals := strings.Repeat("var x = 1;", 2*api.MaxGlobals)
	expectOffset(t, globals+"func f() {"+locals+"}", len(globals)+len(locals)+11, api.OK)
}

func TestLexErrors(t *testing.T) { // P3.3: the errors of token.Lex come first
	expectMark(t, "x x @$", api.ErrChar)
	expectMark(t, "func f(a,b,c,d,e,f,g){} @&", api.ErrChar)
	expectMark(t, "var x = @9223372036854775808;", api.ErrNumber)
	expectMark(t, "var x = -@9223372036854775808;", api.ErrNumber)
	expectMark(t, "; var @"+strings.Repeat("x", api.MaxName+1)+";", api.ErrLimit)
	expectMark(t, strings.Repeat("; ", api.MaxTokens)+"@;", api.ErrLimit)
	expectOffset(t, strings.Repeat(" ", api.MaxBytes+1), api.MaxBytes, api.ErrLimit)
	expectOffset(t, "; "+strings.Repeat("$", api.MaxBytes), api.MaxBytes, api.ErrLimit)
	expectOffset(t, strings.Repeat(" ", api.MaxBytes), api.MaxBytes, api.OK)
}

func TestStatements(t *testing.T) { // P3.1
	sum := api.Expr{Op: api.OpAdd, Args: []api.Expr{x, number(1)}}
	expectStmts(t, "")
	expectStmts(t, "return;", ends...)
	expectStmts(t, "var x = 1;", api.Stmt{Kind: api.StmtVar, Name: "x", Expr: number(1)})
	expectStmts(t, "var x = x + 1;", api.Stmt{Kind: api.StmtVar, Name: "x", Expr: sum})
	expectStmts(t, "y = x + 1;", api.Stmt{Kind: api.StmtAssign, Name: "y", Expr: sum})
	expectStmts(t, "y = -1;", api.Stmt{Kind: api.StmtAssign, Name: "y", Expr: api.Expr{Op: api.OpNegate, Args: []api.Expr{number(1)}}})
	for s, kind := range map[string]int{"lock ": api.StmtLock, "unlock ": api.StmtUnlock} {
		expectStmts(t, s+"a;", api.Stmt{Kind: kind, Ref: api.Ref{Name: "a"}})
		expectStmts(t, s+"a[x + 1];", api.Stmt{Kind: kind, Ref: api.Ref{Name: "a", Index: []api.Expr{sum}}})
		expectStmts(t, s+"a[(y)];", api.Stmt{Kind: kind, Ref: api.Ref{Name: "a", Index: []api.Expr{y}}})
	}
	expectStmts(t, "x = y; return; x = y;", api.Stmt{Kind: api.StmtAssign, Name: "x", Expr: y}, ends[0], api.Stmt{Kind: api.StmtAssign, Name: "x", Expr: y})
}

func TestArguments(t *testing.T) { // P3.1
	a := api.Arg{Mutex: true, Ref: api.Ref{Name: "a"}}
	element := api.Arg{Mutex: true, Ref: api.Ref{Name: "a", Index: []api.Expr{x}}}
	one, two := api.Arg{Expr: number(1)}, api.Arg{Expr: api.Expr{Op: api.OpMultiply, Args: []api.Expr{x, y}}}
	for s, want := range map[string][]api.Arg{
		"": nil, "1": {one}, "(1)": {one}, "mutex a": {a}, "mutex a[x]": {element}, "a": {{Expr: name("a")}},
		"1, x * y": {one, two}, "x*y,1": {two, one}, "mutex a[x], 1, mutex a": {element, one, a}, "1, 1, mutex a, mutex a, x * y, 1, 1, 1": {one, one, a, a, two, one, one, one},
	} {
		expectStmts(t, "f("+s+");", api.Stmt{Kind: api.StmtCall, Name: "f", Args: want})
		expectStmts(t, "go f("+s+");", api.Stmt{Kind: api.StmtGo, Name: "f", Args: want})
	}
}

func TestBlocks(t *testing.T) { // P3.1
	set := api.Stmt{Kind: api.StmtAssign, Name: "x", Expr: y}
	expectStmts(t, "if x { }", api.Stmt{Kind: api.StmtIf, Expr: x})
	expectStmts(t, "if x { } else { }", api.Stmt{Kind: api.StmtIf, Expr: x})
	expectStmts(t, "if (x) { return; }", api.Stmt{Kind: api.StmtIf, Expr: x, Then: ends})
	expectStmts(t, "if x { } else { return; }", api.Stmt{Kind: api.StmtIf, Expr: x, Else: ends})
	expectStmts(t, "if x { x = y; } else { return; } return;", api.Stmt{Kind: api.StmtIf, Expr: x, Then: []api.Stmt{set}, Else: ends}, ends[0])
	expectStmts(t, "while y { }", api.Stmt{Kind: api.StmtWhile, Expr: y})
	expectStmts(t, "while y { x = y; return; } x = y;", api.Stmt{Kind: api.StmtWhile, Expr: y, Then: []api.Stmt{set, ends[0]}}, set)
	inner := api.Stmt{Kind: api.StmtIf, Expr: y, Then: ends, Else: []api.Stmt{set}}
	expectStmts(t, "while x { if y { return; } else { x = y; } }", api.Stmt{Kind: api.StmtWhile, Expr: x, Then: []api.Stmt{inner}})
	expectStmts(t, "if x { if y { return; } else { x = y; } } else { while y { } }", api.Stmt{Kind: api.StmtIf, Expr: x, Then: []api.Stmt{inner}, Else: []api.Stmt{{Kind: api.StmtWhile, Expr: y}}})
	expectStmts(t, "if x { if y { return; } } else { x = y; }", api.Stmt{Kind: api.StmtIf, Expr: x, Then: []api.Stmt{{Kind: api.StmtIf, Expr: y, Then: ends}}, Else: []api.Stmt{set}})
}

func TestMisfits(t *testing.T) { // P3.2, P3.3: ErrSyntax, with its place, in every part of a statement
	for _, s := range []string{
		"{@", "{ @;", "{ @)", "{ @{ } }", "{ @1; }", "{ @(x) = 1; }", "{ @else { } }", "{ @func f(){} }", "{ @mutex a; }", "{ @rmutex a; }", "{ @= 1; }", "{ @-x = 1; }", "{ return; @; }", "{ return;@",
		"{ var@", "{ var @; }", "{ var @1 = 1; }", "{ var @if = 1; }", "{ var x@", "{ var x@; }", "{ var x @1; }", "{ var x @== 1; }", "{ var x @(); }", "{ var x = @; }", "{ var x = 1@", "{ var x = 1 @}", "{ var x = 1 @2; }", "{ var x = 1@, y = 2; }", "{ var x = 1 @= 2; }", "{ var x = @mutex a; }",
		"{ x@", "{ x@; }", "{ x @}", "{ x @y; }", "{ x @+ 1; }", "{ x @== 1; }", "{ x@[1] = 2; }", "{ x @{ }", "{ x = @", "{ x = @; }", "{ x = 1 +@; }", "{ x = (1@; }", "{ x = 1@)", "{ x = f@(1); }", "{ x = 1; @1; }", "{ x = a@[1]; }",
		"{ f(@", "{ f(@; }", "{ f(@,); }", "{ f(1,@); }", "{ f(1,@,2); }", "{ f(1@; }", "{ f(1 @2); }", "{ f(1@", "{ f(mutex@", "{ f(mutex @); }", "{ f(mutex @1); }", "{ f(mutex @(a)); }", "{ f(mutex a @+ 1); }", "{ f(mutex a[@]); }", "{ f(mutex a[1@); }", "{ f(mutex a[1]@[2]); }", "{ f(a@[1]); }", "{ f(1 @mutex a); }", "{ f(@rmutex a); }", "{ f(mutex @mutex a); }", "{ f(1, mutex @, 2); }", "{ f()@", "{ f() @}", "{ f() @= 1; }", "{ f()@(); }", "{ f() @+ 1; }",
		"{ go@", "{ go @; }", "{ go @1(); }", "{ go @go f(); }", "{ go f@; }", "{ go f @= 1; }", "{ go f(@", "{ go f(1,@); }", "{ go f()@", "{ go f() @}", "{ go f() @{ }", "{ go @{ }",
		"{ lock@", "{ lock @; }", "{ lock @1; }", "{ lock @mutex a; }", "{ lock @(a); }", "{ lock a@", "{ lock a @}", "{ lock a@, b; }", "{ lock a @+ 1; }", "{ lock a[@", "{ lock a[@]; }", "{ lock a[1@; }", "{ lock a[1 @2]; }", "{ lock a[1]@[2]; }", "{ lock a@(1); }", "{ lock a[1@)", "{ unlock @; }", "{ unlock a[@]; }", "{ unlock a @}", "{ unlock @lock a; }", "{ lock @unlock a; }",
		"{ if@", "{ if @{ } }", "{ if @; }", "{ if x@", "{ if x@; }", "{ if x @return; }", "{ if x @y { } }", "{ if x @= 1 { } }", "{ if (x @{ } }", "{ if x {@", "{ if x { }@", "{ if x { } @; }", "{ if x { } else@", "{ if x { } else @; }", "{ if x { } else @if y { } }", "{ if x { } else @return; }", "{ if x { } else @x { } }", "{ if x { } else {@", "{ if x { } else { } @else { } }", "{ if x { @else { } }",
		"{ while@", "{ while @{ } }", "{ while x@", "{ while x@; }", "{ while x @x = 1; }", "{ while x {@", "{ while x { } @else { } }", "{ while x { }@",
		"{ return@", "{ return @}", "{ return @1; }", "{ return @x; }", "{ return @(x); }",
	} {
		expectMisfit(t, s)
	}
}

func TestNoBlock(t *testing.T) { // P3.2: what is not a block, or not a token
	for _, s := range []string{"", "x", "}", "(", "return;", "if x { }", "func f() { }", ";", "1"} {
		expectIndex(t, lex(s), 0, 0, api.ErrSyntax)
		expectIndex(t, lex("{ } "+s), 2, 2, api.ErrSyntax)
	}
	l := lex("{ return; }")
	for _, at := range []int{-1, -2, -1 << 63, 5, 6, 1<<63 - 1} {
		expectIndex(t, l, at, at, api.ErrSyntax)
		expectIndex(t, nil, at, at, api.ErrSyntax)
	}
	expectIndex(t, l, 4, 4, api.ErrSyntax)
	expectIndex(t, nil, 0, 0, api.ErrSyntax)
	expectIndex(t, []api.Token{}, 0, 0, api.ErrSyntax)
	for at := range 4 {
		expectIndex(t, l[:4], at, at, api.ErrSyntax)
	}
}

func TestBlockPlaces(t *testing.T) { // P3.2: any place to begin, and what follows a block does not matter
	l := lex("{ if x { return; } else { y = 1; } } } (")
	for at, want := range map[int]int{0: 15, 3: 7, 8: 14} {
		expectIndex(t, l, at, want, api.OK)
	}
	for _, at := range []int{1, 2, 4, 5, 6, 7, 9, 13, 14, 15, 16, 17} {
		expectIndex(t, l, at, at, api.ErrSyntax)
	}
	two, n, errno := parse.Block(lex("{ } { x = y; return; } {"), 2)
	if len(two) != 2 || n != 10 || errno != api.OK {
		t.Errorf("Block = %v, %d, %d", two, n, errno)
	}
}

func TestExpressionErrors(t *testing.T) { // P3.2, P3.3: those of expr.Parse, wherever an expression stands
	deep := strings.Repeat("(", api.MaxNesting)
	for _, s := range []string{"var x = ", "x = ", "f(", "go f(1, ", "f(mutex a[", "lock a[", "unlock a[", "if ", "while ", "if x { } else { while "} {
		s = "{" + s
		expectMisfit(t, s+"@,")
		expectMisfit(t, s+"1 + @*")
		expectMisfit(t, s+"(1 @}")
		expectMisfit(t, s+"(1 @{ }")
		expectMisfit(t, s+"!@lock")
		for _, last := range []string{"(", "-", "!"} {
			expectIndex(t, lex(s+deep+last), 0, len(lex(s+deep))-1, api.ErrLimit)
			expectMark(t, "func f()"+s+deep+"@"+last, api.ErrLimit)
		}
	}
	// Each expression begins anew, and blocks do not count for it.
	most := deep + "x" + strings.Repeat(")", api.MaxNesting)
	set := "lock a[" + most + "]; x = " + most + "; f(" + most + ", mutex a[" + most + "]);"
	text := "{" + strings.Repeat("if x {", api.MaxNesting-1) + set + strings.Repeat("}", api.MaxNesting)
	expectIndex(t, lex(text), 0, len(lex(text))-1, api.OK)
}

func TestNestingLimit(t *testing.T) { // P3.2, P3.3
	for _, open := range []string{"if x {", "while x {", "if x { } else {", "while y { } if x { return; } else {"} {
		inner := "{" + strings.Repeat(open, api.MaxNesting-1)
		whole := inner + strings.Repeat("}", api.MaxNesting)
		expectIndex(t, lex(whole), 0, len(lex(whole))-1, api.OK)
		expectOffset(t, "func f()"+whole, len(whole)+8, api.OK)
		// Blocks that are completed do not count, nor do those around the call.
		expectOffset(t, "func f()"+whole+"func g()"+whole, 2*len(whole)+16, api.OK)
		expectIndex(t, lex("{ while x "+whole), 3, len(lex("{ while x "+whole))-1, api.OK)
		twice := inner + "}" + open + strings.Repeat("}", api.MaxNesting)
		expectIndex(t, lex(twice), 0, len(lex(twice))-1, api.OK)
		for _, last := range []string{"if x @{", "while x @{", "if x @{ } else {", "while (x) @{ )"} {
			before, after, _ := strings.Cut(last, "@")
			expectIndex(t, lex(inner+before+after), 0, len(lex(inner+before))-1, api.ErrLimit)
			expectMark(t, "func f()"+inner+last, api.ErrLimit)
			expectMark(t, "func f()"+whole+"func g()"+inner+last, api.ErrLimit)
		}
		expectMisfit(t, inner+"if x @;")
		expectMisfit(t, inner+"while @{")
		expectMisfit(t, inner+"@{")
	}
}

func TestFirstError(t *testing.T) { // P3.2, P3.3: the first one from the left
	deep := "{" + strings.Repeat("if x {", api.MaxNesting-1)
	expectMark(t, "func f()"+deep+" @; if x {", api.ErrSyntax)
	expectMark(t, "func f()"+deep+" if x @{ ; }", api.ErrLimit)
	expectMark(t, "func f() { @; } func g(a,b,c,d,e,f,g) { }", api.ErrSyntax)
	expectMark(t, "func f(a,b,c,d,e,f,@g) { ; }", api.ErrLimit)
	expectMark(t, "mutex a[@0]; x", api.ErrLimit)
	expectMark(t, "@x mutex a[0];", api.ErrSyntax)
	expectMark(t, "var x @mutex a[0];", api.ErrSyntax)
}

func TestExample(t *testing.T) { // the one of the chapter
	a := api.Ref{Name: "a"}
	expectProgram(t, "mutex a; func main() { lock a; unlock a; }", api.Program{
		Mutexes: []api.Mutex{{Name: "a"}},
		Funcs:   []api.Func{{Name: "main", Body: []api.Stmt{{Kind: api.StmtLock, Ref: a}, {Kind: api.StmtUnlock, Ref: a}}}},
	})
}

func TestAnyTokens(t *testing.T) { // P3.2, R1: tokens in any order, and tokens that Lex never returns
	sign := func(s string) api.Token { return api.Token{Kind: api.TokenSign, Text: s} }
	word := func(s string) api.Token { return api.Token{Kind: api.TokenWord, Text: s} }
	expectIndex(t, []api.Token{sign("{"), end, sign("}"), end}, 0, 1, api.ErrSyntax)
	expectIndex(t, []api.Token{sign("{"), sign("}"), end, sign("}"), end}, 0, 2, api.OK)
	expectIndex(t, []api.Token{sign("{"), word("return"), end, sign(";"), sign("}"), end}, 0, 2, api.ErrSyntax)
	expectIndex(t, []api.Token{end, sign("{"), sign("}"), end}, 1, 3, api.OK)
	expectIndex(t, []api.Token{end, sign("{"), sign("}"), end}, 0, 0, api.ErrSyntax)
	expectIndex(t, []api.Token{{Kind: api.TokenName, Text: "{"}, sign("}"), end}, 0, 0, api.ErrSyntax)
	for kind := -1; kind < 9; kind++ {
		for _, s := range []string{"", "{", "}", "if", "x", ";", "\xff"} {
			strange := api.Token{Kind: kind, Text: s, Num: -1 << 63, Pos: -7}
			parse.Block([]api.Token{strange, strange, {Kind: api.TokenEnd, Text: s}}, 0)
			parse.Block([]api.Token{sign("{"), strange, strange, {Kind: api.TokenEnd, Text: s}}, 0)
			parse.Block([]api.Token{sign("{"), word("if"), strange, strange, sign("}"), end}, 0)
		}
	}
}
