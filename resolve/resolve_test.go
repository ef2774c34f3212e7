package resolve_test

import (
	"runtime/debug"
	"strconv"
	"strings"
	"testing"

	"lockorder/api"
	"lockorder/parse"
	"lockorder/resolve"
)

// result is what Check returns.
type result struct {
	function, statement int
	errno               api.Errno
}

var (
	right   = result{0, 0, api.OK}
	noMain  = result{-1, -1, api.ErrMain}
	invalid = result{-1, -1, api.ErrInvalid}
)

func check(p api.Program) result {
	f, n, errno := resolve.Check(p)
	return result{f, n, errno}
}

// mustParse returns the program of a text that is one.
func mustParse(t *testing.T, s string) api.Program {
	t.Helper()
	p, n, errno := parse.Program([]byte(s))
	if errno != api.OK {
		t.Fatalf("Program(%.80q) = %d, %d", s, n, errno)
	}
	return p
}

// expect tests the result for the program of a text.
func expect(t *testing.T, s string, want result) {
	t.Helper()
	if got := check(mustParse(t, s)); got != want {
		t.Errorf("Check of %.200q = %v; want %v", s, got, want)
	}
}

// Everything that may be declared, for the tests of statements; they are in the function f, which has the number 1.
const (
	declared = "var v; mutex s; rmutex r; mutex l[2]; func main() { } func f(p, mutex m) { "
	others   = " } func none() { } func one(i) { } func lock1(mutex n) { } func both(i, mutex n) { } func three(i, mutex n, j) { }"
)

// expectError tests the error of a statement alone, and that of a body in which others come before and after it.
func expectError(t *testing.T, s string, errno api.Errno) {
	t.Helper()
	expectBody(t, s, 0, errno)
	expectBody(t, "var d = p; v = d; lock s; "+s, 3, errno)
	if errno != api.OK {
		expectBody(t, s+" undeclared = 1; v();", 0, errno)
	}
	expectBody(t, "while p { if v { return; } else { "+s+" } }", 3, errno)
}

// expectBody tests the error of the statement with this number, or that there is none.
func expectBody(t *testing.T, body string, statement int, errno api.Errno) {
	t.Helper()
	want := result{1, statement, errno}
	if errno == api.OK {
		want = right
	}
	expect(t, declared+body+others, want)
}

func TestExample(t *testing.T) { // the one of the chapter
	expect(t, "func main() { lock a; }", result{0, 0, api.ErrUnknown})
}

func TestInvalid(t *testing.T) { // P5.1, 1
	main := api.Func{Name: "main"}
	body := func(s api.Stmt) api.Program {
		return api.Program{Funcs: []api.Func{{Name: "main", Body: []api.Stmt{s}}}}
	}
	x := api.Expr{Op: api.OpName, Name: "x"}
	long := strings.Repeat("x", api.MaxName)
	for i, p := range []api.Program{
		{Globals: []api.Global{{}}, Funcs: []api.Func{main}},
		{Globals: []api.Global{{Name: "if"}}, Funcs: []api.Func{main}},
		{Globals: []api.Global{{Name: long + "x"}}, Funcs: []api.Func{main}},
		{Globals: []api.Global{{Name: "x", Init: -1 << 63}}, Funcs: []api.Func{main}},
		{Globals: make([]api.Global, api.MaxGlobals+1), Funcs: []api.Func{main}},
		{Mutexes: []api.Mutex{{Name: "a", Size: -1}}, Funcs: []api.Func{main}},
		{Mutexes: []api.Mutex{{Name: "a", Size: api.MaxElements + 1}}, Funcs: []api.Func{main}},
		{Mutexes: []api.Mutex{{Name: "a", Size: 1, Reentrant: true}}, Funcs: []api.Func{main}},
		{Funcs: make([]api.Func, api.MaxFuncs+1)},
		{Funcs: []api.Func{{Name: "main", Params: make([]api.Param, 1)}}},
		// Other errors come after it.
		{Globals: []api.Global{{Name: "x"}, {Name: "x"}, {Name: "a b"}}},
		{Funcs: []api.Func{{Name: "f", Body: []api.Stmt{{Kind: api.StmtAssign, Name: "y", Expr: x}, {}}}}},
		body(api.Stmt{}), body(api.Stmt{Kind: -1}), body(api.Stmt{Kind: 10}), body(api.Stmt{Kind: api.StmtReturn, Name: "x"}),
		body(api.Stmt{Kind: api.StmtVar, Name: "x"}), body(api.Stmt{Kind: api.StmtVar, Expr: x}), body(api.Stmt{Kind: api.StmtVar, Name: "x", Expr: api.Expr{Op: api.OpLocal}}),
		body(api.Stmt{Kind: api.StmtVar, Name: "y", Expr: api.Expr{Op: api.OpNumber}, Then: []api.Stmt{{Kind: api.StmtReturn}}}),
		body(api.Stmt{Kind: api.StmtLock, Ref: api.Ref{Name: "a", Index: []api.Expr{x, x}}}),
		body(api.Stmt{Kind: api.StmtCall, Name: "main", Args: make([]api.Arg, 1)}),
		body(api.Stmt{Kind: api.StmtCall, Name: "main", Args: []api.Arg{{Mutex: true, Ref: api.Ref{Name: "a"}, Expr: x}}}),
		body(api.Stmt{Kind: api.StmtWhile, Expr: x, Else: []api.Stmt{{Kind: api.StmtReturn}}}),
	} {
		if got := check(p); got != invalid {
			t.Errorf("%d: Check = %v; want %v", i, got, invalid)
		}
	}
}

func TestDeclaredTwice(t *testing.T) { // P5.1, 2
	for s, second := range map[string]int{
		"var a; var a;": 1, "mutex a; mutex a;": 1, "rmutex a; mutex a[2];": 1, "func a() { } func a() { }": 1,
		"var a; mutex a;": 1, "var a; func a() { }": 1, "mutex a; func a() { }": 1,
		// The order is that of the kinds, not that of the text.
		"mutex a; var a;": 1, "func a() { } var a;": 1, "func a() { } mutex a;": 1, "func a() { } mutex b; var a; mutex c; var d;": 4,
		"var a; var b; mutex c; rmutex d; func e() { } func b() { }": 5, "func a() { } mutex b; mutex a; var c; var b;": 2, "func a() { } mutex b; mutex a; var c;": 3,
		// Of several names the one whose second declaration comes first, and of one name the second declaration.
		"var a; var b; mutex b; mutex a;": 2, "var a; var b; mutex a; mutex b;": 2, "var a; var b; var a; var a;": 2, "var a; mutex b; func b() { } var a;": 1,
		"var main; func main() { }": 1, "func main() { } func main(x) { }": 1, "func main() { } mutex main;": 1,
	} {
		expect(t, s, result{-1, second, api.ErrDuplicate})
		// It comes before all errors of functions, and a main changes nothing.
		expect(t, s+" func g(x, x) { y = 1; }", result{-1, second, api.ErrDuplicate})
		if !strings.Contains(s, "main") {
			expect(t, s+" func main() { y = 1; }", result{-1, second, api.ErrDuplicate})
		}
	}
	expect(t, "var a; var A; var _a; mutex aa; mutex a_; func a1() { } func a0() { } func main() { }", right)
}

func TestDeclaredTwiceLast(t *testing.T) { // P5.1, 2: as many declarations as there may be
	var s strings.Builder
	number := func(word, after string, from, n int) {
		for i := range n {
			s.WriteString(word + " n" + strconv.Itoa(from+i) + after + " ")
		}
	}
	number("var", ";", 0, api.MaxGlobals)
	number("mutex", ";", api.MaxGlobals, api.MaxMutexes)
	number("func", "() { }", api.MaxGlobals+api.MaxMutexes, api.MaxFuncs-1)
	expect(t, s.String()+"func main() { }", right)
	for i := range api.MaxGlobals + api.MaxMutexes + api.MaxFuncs - 1 {
		expect(t, s.String()+"func n"+strconv.Itoa(i)+"() { }", result{-1, api.MaxGlobals + api.MaxMutexes + api.MaxFuncs - 1, api.ErrDuplicate})
	}
}

func TestMainFunction(t *testing.T) { // P5.1, 3
	for _, s := range []string{"", "//", "var x; mutex a;", "func f() { }", "func Main() { } func main1() { }", "var main;", "mutex main;", "rmutex main; func f() { }", "mutex main[2];", "func main(x) { }", "func main(mutex m) { }", "func main(a, mutex b, c) { }"} {
		expect(t, s, noMain)
		// It comes before the errors of functions.
		expect(t, s+" func g(x, x) { y = 1; }", noMain)
		expect(t, "func h() { y = 1; } "+s, noMain)
	}
	expect(t, "func f(main) { }", noMain)
	expect(t, "func f() { var main = 1; }", noMain)
	for _, s := range []string{"func main() { }", "func main() { return; }", "func f(x) { } func main() { } mutex a; var x1;", "func main() { main(); go main(); }"} {
		expect(t, s, right)
	}
}

func TestParameters(t *testing.T) { // P5.1, 4
	for s, wrong := range map[string]bool{
		"": false, "x": false, "mutex x": false, "x, y, mutex z, mutex a1, b1, c1": false, "X, x": false,
		"x, x": true, "x, mutex x": true, "mutex x, x": true, "mutex x, mutex x": true, "x, y, z, x": true, "a1, a2, a3, a4, a5, a5": true,
		"v": true, "mutex v": true, "s": true, "mutex s": true, "r": true, "mutex l": true, "l": true, "main": true, "mutex main": true, "f": true, "mutex none": true, "x, y, both": true, "x, v": true,
	} {
		want := right
		if wrong {
			want = result{7, -1, api.ErrDuplicate}
			expect(t, declared+others+" func g("+s+") { undeclared = 1; }", want)
		}
		expect(t, declared+others+" func g("+s+") { }", want)
		expect(t, declared+others+" func g("+s+") { } func k(x, mutex y, z) { }", want)
	}
	// The names of other functions do not count, nor those that are declared later.
	expect(t, "func f(x, mutex y) { var z = 1; } func g(y, mutex z, x) { z = 1; } func main() { }", result{1, 0, api.ErrSort})
	expect(t, "func f(x, mutex y) { var z = 1; } func g(y, mutex z, x) { lock z; y = x; } func main() { var x = 1; var y = 1; var z = 1; }", right)
	expect(t, "func main() { } func f(a) { } func g(b, b) { } func h(c, c) { }", result{2, -1, api.ErrDuplicate})
}

func TestOrderOfFunctions(t *testing.T) { // P5.1, 4: function by function, and of each the parameters before the statements
	expect(t, "func main() { x = 1; } func f(a, a) { }", result{0, 0, api.ErrUnknown})
	expect(t, "func f(a, a) { x = 1; } func main() { x = 1; }", result{0, -1, api.ErrDuplicate})
	expect(t, "func f(a, a) { } func g(a) { a(); }  func main() { }", result{0, -1, api.ErrDuplicate})
	expect(t, "func f(a) { } func g(a) { a(); } func h(a, a) { } func main() { }", result{1, 0, api.ErrSort})
	expect(t, "func f() { return; return; } func main() { return; return; x(); } func g() { y = 1; }", result{1, 2, api.ErrUnknown})
	expect(t, "func f() { } func main() { } func g() { return; x(); }", result{2, 1, api.ErrUnknown})
	expect(t, "func main() { g(1); } func g() { x = 1; }", result{0, 0, api.ErrArity})
	// The numbers count functions alone.
	expect(t, "var x; mutex a; mutex b; func main() { } func f() { } var y; func g() { if x { } x = a; }", result{2, 1, api.ErrSort})
}

func TestNumbers(t *testing.T) { // P5.1, 4: the statements in the order of their numbers (P4.3)
	body := "return; if 1 { return; while 1 { return; } return; } else { return; if 1 { } else { return; } } return;"
	for wrong := range strings.Count(body, "return;") {
		parts := strings.SplitAfter(body, "return;")
		parts[wrong] = strings.TrimSuffix(parts[wrong], "return;") + "x = 1;"
		want := []int{0, 2, 4, 5, 6, 8, 9}[wrong]
		expect(t, "func main() { "+strings.Join(parts, "")+" }", result{0, want, api.ErrUnknown})
		// Errors in statements with greater numbers change nothing.
		for i := wrong + 1; i < len(parts); i++ {
			parts[i] = strings.Replace(parts[i], "return;", "main(1);", 1)
		}
		expect(t, "func main() { "+strings.Join(parts, "")+" }", result{0, want, api.ErrUnknown})
	}
	// The condition comes before the blocks, Then before Else, and both before the next statement.
	for s, want := range map[string]result{
		"if x { y(); } else { main(1); } main = 1;":                  {0, 0, api.ErrUnknown},
		"if 1 { main(1); } else { y(); } main = 1;":                  {0, 1, api.ErrArity},
		"if 1 { } else { main(1); } main = 1;":                       {0, 1, api.ErrArity},
		"if 1 { return; } else { } main = 1; y();":                   {0, 2, api.ErrSort},
		"while main { y(); } main(1);":                               {0, 0, api.ErrSort},
		"while 1 { while 2 { return; } while x { main(1); } }":       {0, 3, api.ErrUnknown},
		"if 1 { if 2 { } } else { if 3 { } else { y(); } } main(1);": {0, 3, api.ErrUnknown},
	} {
		expect(t, "func main() { "+s+" }", want)
	}
}

func TestVisible(t *testing.T) { // P5.1
	// What is declared is visible everywhere, also before its declaration.
	expect(t, "func main() { x = 1; lock a; unlock c[x]; f(x, mutex a); go g(); } func f(n, mutex m) { g(); x = n; lock m; lock a; } func g() { main(); f(x, mutex b); } mutex a; rmutex b; mutex c[3]; var x;", right)
	// A parameter is visible in its function, in all its blocks.
	expect(t, "func main() { } func f(n, mutex m) { while n { if n { lock m; n = 1; } else { unlock m; n = 2; } } n = 3; }", right)
	expect(t, "func f(n, mutex m) { } func main() { n = 1; }", result{1, 0, api.ErrUnknown})
	expect(t, "func f(n, mutex m) { } func main() { lock m; }", result{1, 0, api.ErrUnknown})
	expect(t, "func main() { lock m; } func f(n, mutex m) { }", result{0, 0, api.ErrUnknown})
	for body, want := range map[string]result{
		"var x = 1; x = 2; var y = x; y = x;": right,
		"x = 1; var x = 2;":                   {0, 0, api.ErrUnknown},
		"var x = x;":                          {0, 0, api.ErrUnknown},
		"var x = 1; var y = y + x;":           {0, 1, api.ErrUnknown},
		"var x = 1; if x { x = 2; if x { x = 3; } else { x = 4; } } else { x = 5; } x = 6;": right,
		"var x = 1; while x { while x { x = 1; } x = 2; } x = 3;":                           right,
		"if 1 { var x = 1; x = 2; } x = 3;":                                                 {0, 3, api.ErrUnknown},
		"if 1 { var x = 1; x = 2; } else { x = 3; }":                                        {0, 3, api.ErrUnknown},
		"if 1 { } else { var x = 1; x = 2; } x = 3;":                                        {0, 3, api.ErrUnknown},
		"while 1 { var x = 1; x = 2; } x = 3;":                                              {0, 3, api.ErrUnknown},
		"while 1 { var x = 1; while x { } } if x { }":                                       {0, 3, api.ErrUnknown},
		"while x { var x = 1; }":                                                            {0, 0, api.ErrUnknown},
		"while 1 { x = 1; var x = 2; }":                                                     {0, 1, api.ErrUnknown},
		"if 1 { x = 1; } var x = 2;":                                                        {0, 1, api.ErrUnknown},
		"if 1 { if 2 { var x = 1; } x = 2; }":                                               {0, 3, api.ErrUnknown},
		"if 1 { var x = 1; if 2 { var y = 1; } y = 1; }":                                    {0, 4, api.ErrUnknown},
		"if 1 { var x = 1; if 2 { var y = 1; } x = 1; } x = 1;":                             {0, 5, api.ErrUnknown},
		// A name that is not visible any more may be declared again.
		"if 1 { var x = 1; } var x = 2; x = 3;":                          right,
		"if 1 { var x = 1; } else { var x = 2; x = 3; } var x = 4;":      right,
		"while 1 { var x = 1; } while 2 { var x = 2; x = 3; }":           right,
		"while 1 { if 1 { var x = 1; } if 2 { var x = 1; } var x = 1; }": right,
		"if 1 { while 2 { var x = 1; } } else { } var x = 2;":            right,
		"return; var x = 1; x = 2;":                                      right,
	} {
		expect(t, "func main() { "+body+" }", want)
		expect(t, "func main() { "+body+" } func f() { "+body+" }", want)
	}
	// The variables of a function are not visible in others.
	expect(t, "func main() { var x = 1; } func f() { x = 1; }", result{1, 0, api.ErrUnknown})
	expect(t, "func main() { var x = 1; f(); } func f() { var x = 1; x = x; }", right)
	expect(t, "func main() { if 1 { var x = 1; while 1 { var y = 2; } } } func f() { y = 1; }", result{1, 0, api.ErrUnknown})
	expect(t, "func main() { var x = 1; } func f(mutex x) { lock x; } func g(x) { x = 1; } func h() { var y = 2; y = x; }", result{3, 1, api.ErrUnknown})
}

func TestVar(t *testing.T) { // P5.2
	for s, errno := range map[string]api.Errno{
		"var x = 1;": api.OK, "var x = v;": api.OK, "var x = p + v * -p;": api.OK, "var x = !(v < 1 && p == 2);": api.OK,
		"var v = 1;": api.ErrDuplicate, "var s = 1;": api.ErrDuplicate, "var r = 1;": api.ErrDuplicate, "var l = 1;": api.ErrDuplicate, "var f = 1;": api.ErrDuplicate, "var main = 1;": api.ErrDuplicate, "var three = 1;": api.ErrDuplicate, "var p = 1;": api.ErrDuplicate, "var m = 1;": api.ErrDuplicate,
		"var v = x;": api.ErrDuplicate, "var m = s;": api.ErrDuplicate, "var v = v;": api.ErrDuplicate,
		"var x = x;": api.ErrUnknown, "var x = y;": api.ErrUnknown, "var x = s;": api.ErrSort, "var x = f;": api.ErrSort, "var x = y + s;": api.ErrUnknown, "var x = s + y;": api.ErrSort, "var x = i;": api.ErrUnknown, "var x = n;": api.ErrUnknown,
	} {
		expectError(t, s, errno)
	}
	for s, number := range map[string]int{
		"var x = 1; var x = 2;": 1, "var x = 1; while 1 { var x = 2; }": 2, "var x = 1; if 1 { } else { if 1 { var x = 2; } }": 3, "while 1 { var x = 1; if x { var x = 2; } }": 3, "var x = 1; if 1 { var y = 1; } else { var y = 1; } var x = 1;": 4,
	} {
		expectBody(t, s, number, api.ErrDuplicate)
	}
}

func TestAssign(t *testing.T) { // P5.2
	for s, errno := range map[string]api.Errno{
		"v = 1;": api.OK, "p = 1;": api.OK, "v = v;": api.OK, "p = v + p;": api.OK,
		"x = 1;": api.ErrUnknown, "i = 1;": api.ErrUnknown, "n = 1;": api.ErrUnknown,
		"s = 1;": api.ErrSort, "r = 1;": api.ErrSort, "l = 1;": api.ErrSort, "m = 1;": api.ErrSort, "f = 1;": api.ErrSort, "main = 1;": api.ErrSort, "none = 1;": api.ErrSort,
		"x = s;": api.ErrUnknown, "s = x;": api.ErrSort, "v = x;": api.ErrUnknown, "v = s;": api.ErrSort,
	} {
		expectError(t, s, errno)
	}
	expectBody(t, "var x = 1; x = x; while x { x = v; }", 0, api.OK)
	expectBody(t, "var x = 1; x = s;", 1, api.ErrSort)
}

func TestExpressions(t *testing.T) { // P5.2: in all statements, the names from the left
	around := []string{"var d1 = ?;", "v = ?;", "if ? { }", "while ? { return; }", "lock l[?];", "unlock l[?];", "one(?);", "go one(?);", "both(?, mutex s);", "go lock1(mutex l[?]);", "three(1, mutex s, ?);", "three(v, mutex l[?], p);"}
	for e, errno := range map[string]api.Errno{
		"1": api.OK, "v": api.OK, "p": api.OK, "-v": api.OK, "!p": api.OK, "v + 1": api.OK, "(v - p) * (p / v % 2)": api.OK, "v < 1 || p >= v && !(v == p)": api.OK, "9223372036854775807": api.OK,
		"x": api.ErrUnknown, "i": api.ErrUnknown, "n": api.ErrUnknown, "-x": api.ErrUnknown, "!(v - x)": api.ErrUnknown, "1 + 2 * x": api.ErrUnknown, "x + 1": api.ErrUnknown,
		"s": api.ErrSort, "r": api.ErrSort, "l": api.ErrSort, "m": api.ErrSort, "f": api.ErrSort, "main": api.ErrSort, "none": api.ErrSort, "!-m": api.ErrSort, "v + s": api.ErrSort, "l == 1": api.ErrSort,
		"x + s": api.ErrUnknown, "s + x": api.ErrSort, "v + x - s": api.ErrUnknown, "v - s + x": api.ErrSort, "v - (s + x)": api.ErrSort, "(v + x) * s": api.ErrUnknown, "1 && f || x": api.ErrSort, "1 || x && f": api.ErrUnknown, "-x * -s": api.ErrUnknown, "v + v + v + v + (v + (v + s)) + x": api.ErrSort,
	} {
		for _, s := range around {
			expectError(t, strings.Replace(s, "?", e, 1), errno)
		}
	}
	for op := range strings.FieldsSeq("* / % + - < <= > >= == != && ||") {
		expectError(t, "v = x "+op+" s;", api.ErrUnknown)
		expectError(t, "v = s "+op+" x;", api.ErrSort)
		expectError(t, "v = p "+op+" v;", api.OK)
	}
}

func TestReferences(t *testing.T) { // P5.2: of StmtLock and StmtUnlock, and in arguments
	around := []string{"lock ?;", "unlock ?;", "lock1(mutex ?);", "go lock1(mutex ?);", "both(1, mutex ?);", "three(v, mutex ?, p);"}
	for r, errno := range map[string]api.Errno{
		"s": api.OK, "r": api.OK, "m": api.OK, "l[0]": api.OK, "l[v]": api.OK, "l[p + v]": api.OK, "l[-1]": api.OK, "l[2]": api.OK, "l[9]": api.OK,
		"x": api.ErrUnknown, "n": api.ErrUnknown, "x[0]": api.ErrUnknown, "x[s]": api.ErrUnknown, "x[y]": api.ErrUnknown,
		"v": api.ErrSort, "p": api.ErrSort, "f": api.ErrSort, "main": api.ErrSort, "v[0]": api.ErrSort, "p[0]": api.ErrSort, "none[0]": api.ErrSort, "v[x]": api.ErrSort, "f[x]": api.ErrSort,
		"s[0]": api.ErrSort, "r[0]": api.ErrSort, "m[0]": api.ErrSort, "s[x]": api.ErrSort, "r[x]": api.ErrSort, "m[x]": api.ErrSort, "l": api.ErrSort,
		"l[x]": api.ErrUnknown, "l[s]": api.ErrSort, "l[l]": api.ErrSort, "l[m]": api.ErrSort, "l[f]": api.ErrSort, "l[x + s]": api.ErrUnknown, "l[s + x]": api.ErrSort,
	} {
		for _, s := range around {
			expectError(t, strings.Replace(s, "?", r, 1), errno)
		}
	}
	expectBody(t, "var x = 1; lock l[x];", 0, api.OK)
	expectBody(t, "var x = 1; lock x;", 1, api.ErrSort)
	expectBody(t, "var x = 1; unlock x[0];", 1, api.ErrSort)
	// An array of one element is an array.
	expect(t, "mutex a[1]; func main() { lock a[0]; }", right)
	expect(t, "mutex a[1]; func main() { lock a; }", result{0, 0, api.ErrSort})
}

func TestCalls(t *testing.T) { // P5.2: of StmtCall and StmtGo
	for s, errno := range map[string]api.Errno{
		"none();": api.OK, "main();": api.OK, "one(1);": api.OK, "one(v);": api.OK, "lock1(mutex s);": api.OK, "f(p, mutex m);": api.OK, "both(v - 1, mutex l[p]);": api.OK, "three(1, mutex r, 2);": api.OK,
		"x();": api.ErrUnknown, "x(y);": api.ErrUnknown, "x(mutex v, s);": api.ErrUnknown, "i();": api.ErrUnknown,
		"v();": api.ErrSort, "p();": api.ErrSort, "s();": api.ErrSort, "r();": api.ErrSort, "l();": api.ErrSort, "m();": api.ErrSort, "m(x);": api.ErrSort,
		"none(1);": api.ErrArity, "none(x);": api.ErrArity, "none(mutex x);": api.ErrArity, "one();": api.ErrArity, "one(1, 2);": api.ErrArity, "one(mutex s, x);": api.ErrArity, "lock1();": api.ErrArity, "both(1);": api.ErrArity, "both(mutex s);": api.ErrArity, "both(x, mutex s, 1);": api.ErrArity, "three(x, y);": api.ErrArity, "three(1, mutex s, 2, 3);": api.ErrArity, "main(x);": api.ErrArity, "f();": api.ErrArity, "none(1, 1, 1, 1, 1, 1, 1, 1, 1);": api.ErrArity,
		"one(mutex s);": api.ErrSort, "one(mutex x);": api.ErrSort, "one(mutex v);": api.ErrSort, "lock1(1);": api.ErrSort, "lock1(x);": api.ErrSort, "lock1(s);": api.ErrSort, "both(mutex s, 1);": api.ErrSort, "both(mutex x, y);": api.ErrSort, "both(1, 2);": api.ErrSort, "both(1, s);": api.ErrSort, "both(mutex s, mutex s);": api.ErrSort,
		// Argument by argument: the sort of one comes after the names of those before it, and before its own.
		"both(x, 1);": api.ErrUnknown, "both(s, mutex x);": api.ErrSort, "both(x, mutex v);": api.ErrUnknown, "both(1, mutex x);": api.ErrUnknown, "three(1, mutex x, mutex s);": api.ErrUnknown, "three(1, x, y);": api.ErrSort, "three(1, mutex l, x);": api.ErrSort, "three(1, mutex l[x], s);": api.ErrUnknown, "three(x, mutex v, s);": api.ErrUnknown, "three(v, mutex v, x);": api.ErrSort, "three(v, mutex m, x);": api.ErrUnknown,
	} {
		expectError(t, s, errno)
		expectError(t, "go "+s, errno)
	}
	expectBody(t, "var x = 1; x();", 1, api.ErrSort)
	expectBody(t, "var x = 1; one(x);", 0, api.OK)
	expectBody(t, "var x = 1; lock1(mutex x);", 1, api.ErrSort)
	expect(t, "func g(a, b, mutex c, d, mutex e, mutex h) { g(1, 2, mutex c, 3, mutex h, mutex e); } func main() { }", right)
}

func TestBlocksAndReturn(t *testing.T) { // P5.2: StmtIf, StmtWhile, StmtReturn
	for s, errno := range map[string]api.Errno{
		"return;": api.OK, "if v { }": api.OK, "if 1 { } else { }": api.OK, "while p { }": api.OK, "while 0 { return; }": api.OK,
		"if x { }": api.ErrUnknown, "if s { }": api.ErrSort, "while x { }": api.ErrUnknown, "while m { }": api.ErrSort, "if main { x = 1; }": api.ErrSort, "while x { s = 1; }": api.ErrUnknown,
	} {
		expectError(t, s, errno)
	}
}

func TestLargest(t *testing.T) { // R1: programs with as many tokens, and blocks as deep, as there may be
	long := "v" + strings.Repeat(" + v", (api.MaxTokens-20)/2)
	for s, want := range map[string]result{
		"var v; func main() { v = " + long + "; }":                     right,
		"var v; func main() { v = " + long + " + x; }":                 {0, 0, api.ErrUnknown},
		"var v; func main() { v = x + " + long + "; }":                 {0, 0, api.ErrUnknown},
		"var v; func main() { v = main + " + long + ";}":               {0, 0, api.ErrSort},
		"func main() { " + strings.Repeat("return; ", 1990) + "x(); }": {0, 1990, api.ErrUnknown},
		"func main() { " + strings.Repeat("var x = 1; if x { ", 1) + strings.Repeat("while x { ", 22) + "x = 1; var y = x;" + strings.Repeat("}", 23) + " var y = x; }": right,
		"func main() { " + strings.Repeat("if 1 { } else { ", 23) + "x = 1;" + strings.Repeat("}", 23) + " }":                                                           {0, 23, api.ErrUnknown},
		"var v; func main() { v = " + strings.Repeat("-(", 12) + "x" + strings.Repeat(")", 12) + "; }":                                                                  {0, 0, api.ErrUnknown},
	} {
		expect(t, s, want)
	}
	long16 := strings.Repeat("x", api.MaxName)
	expect(t, "var "+long16+"; func main() { "+long16+" = 1; }", right)
	expect(t, "var "+long16+"; func main() { "+long16[1:]+" = 1; }", result{0, 0, api.ErrUnknown})
}

// TestEndless has programs whose lists contain themselves, or are far deeper than the stack of calls may be.
func TestEndless(t *testing.T) { // R1, P5.1, 1
	defer debug.SetMaxStack(debug.SetMaxStack(1 << 20))
	one := api.Expr{Op: api.OpNumber, Num: 1}
	l := []api.Stmt{{Kind: api.StmtWhile, Expr: one}}
	l[0].Then = l
	args := []api.Expr{{Op: api.OpNegate}}
	args[0].Args = args
	deep := []api.Stmt{{Kind: api.StmtReturn}}
	for range 100000 {
		deep = []api.Stmt{{Kind: api.StmtIf, Expr: one, Else: deep}}
	}
	for i, body := range [][]api.Stmt{l, deep, {{Kind: api.StmtVar, Name: "x", Expr: args[0]}}} {
		if got := check(api.Program{Funcs: []api.Func{{Name: "main", Body: body}}}); got != invalid {
			t.Errorf("%d: Check = %v; want %v", i, got, invalid)
		}
	}
}

func TestEmptyLists(t *testing.T) { // R5
	empty := api.Stmt{Kind: api.StmtLock, Ref: api.Ref{Name: "a", Index: []api.Expr{}}, Expr: api.Expr{Args: []api.Expr{}}, Args: []api.Arg{}, Then: []api.Stmt{}, Else: []api.Stmt{}}
	call := api.Stmt{Kind: api.StmtCall, Name: "main", Args: []api.Arg{}}
	p := api.Program{Globals: []api.Global{}, Mutexes: []api.Mutex{{Name: "a"}}, Funcs: []api.Func{{Name: "main", Params: []api.Param{}, Body: []api.Stmt{empty, call}}, {Name: "f", Body: []api.Stmt{}}}}
	if got := check(p); got != right {
		t.Errorf("Check = %v; want %v", got, right)
	}
	p.Mutexes[0].Size = 1
	if got, want := check(p), (result{0, 0, api.ErrSort}); got != want {
		t.Errorf("Check = %v; want %v", got, want)
	}
}
