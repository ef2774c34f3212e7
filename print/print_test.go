package print_test

import (
	"runtime/debug"
	"strings"
	"testing"

	"lockorder/api"
	"lockorder/parse"
	"lockorder/print"
)

var (
	x     = name("x")
	sum   = api.Expr{Op: api.OpAdd, Args: []api.Expr{name("a"), number(1)}}
	a     = api.Ref{Name: "a"}
	ends  = api.Stmt{Kind: api.StmtReturn}
	locks = api.Stmt{Kind: api.StmtLock, Ref: a}
)

func name(s string) api.Expr { return api.Expr{Op: api.OpName, Name: s} }

func number(n int) api.Expr { return api.Expr{Op: api.OpNumber, Num: n} }

// body returns a program with one function.
func body(l ...api.Stmt) api.Program {
	return api.Program{Funcs: []api.Func{{Name: "f", Body: l}}}
}

// mustParse returns the program of a text that is one.
func mustParse(t *testing.T, s string) api.Program {
	t.Helper()
	p, n, errno := parse.Program([]byte(s))
	if errno != api.OK {
		t.Fatalf("Program(%.80q) = %d, %d", s, n, errno)
	}
	return p
}

// expectText tests that the program of a text has this canonical text.
func expectText(t *testing.T, s, want string) {
	t.Helper()
	if got := print.Format(mustParse(t, s)); got != want {
		t.Errorf("Format of %q = %q; want %q", s, got, want)
	}
}

// expectLines tests that statements have these lines, which are indented by a tab less than in a function.
func expectLines(t *testing.T, s string, lines ...string) {
	t.Helper()
	text := "func f() {\n"
	for _, x := range lines {
		text += "\t" + x + "\n"
	}
	expectText(t, "func f(){"+s+"}", text+"}\n")
}

func TestFormatDeclarations(t *testing.T) { // P4.2
	for s, want := range map[string]string{
		"": "", "//": "",
		"var x;": "var x;\n", "var x=0;": "var x;\n", "var x=-0;": "var x;\n", "var x=5;": "var x = 5;\n", "var x=-5;": "var x = -5;\n", "var x = - 005;": "var x = -5;\n",
		"var x=9223372036854775807;": "var x = 9223372036854775807;\n", "var x=-9223372036854775807;": "var x = -9223372036854775807;\n",
		"mutex a;": "mutex a;\n", "rmutex a;": "rmutex a;\n", "mutex a[3];": "mutex a[3];\n", "mutex a [ 01 ] ;": "mutex a[1];\n", "mutex a[64];": "mutex a[64];\n",
		"func f(){}": "func f() {\n}\n", "func f(x){}": "func f(x) {\n}\n", "func f(mutex m){}": "func f(mutex m) {\n}\n", "func f(x,mutex m){}": "func f(x, mutex m) {\n}\n",
		"func f(mutex a,b,mutex c,mutex d,e,f){}": "func f(mutex a, b, mutex c, mutex d, e, f) {\n}\n",
	} {
		expectText(t, s, want)
	}
}

func TestFormatOrder(t *testing.T) { // P4.2: global variables, mutexes, functions, each in its order
	want := "var y;\nvar x = 1;\nvar y = -2;\nrmutex b;\nmutex a;\nmutex c[2];\nfunc g() {\n\treturn;\n}\nfunc f() {\n}\n"
	expectText(t, "func g(){return;}var y;rmutex b;var x=1;mutex a;func f(){}mutex c[2];var y=-2;", want)
	expectText(t, "mutex z;var z;func z(){}rmutex a;var a;func a(){}", "var z;\nvar a;\nmutex z;\nrmutex a;\nfunc z() {\n}\nfunc a() {\n}\n")
}

func TestFormatStatements(t *testing.T) { // P4.2
	for s, want := range map[string]string{
		"return ;": "return;", "var x=1;": "var x = 1;", "var y=x+1;": "var y = x + 1;", "x=-(a+b)*2;": "x = -(a + b) * 2;", "x=((1));": "x = 1;", "x=a-(b-c);": "x = a - (b - c);", "x=007;": "x = 7;",
		"lock a;": "lock a;", "unlock a;": "unlock a;", "lock a [ x+1 ] ;": "lock a[x + 1];", "unlock a[(0)];": "unlock a[0];", "unlock a[-x];": "unlock a[-x];",
		"f ( ) ;": "f();", "go f ( ) ;": "go f();", "f(1);": "f(1);", "f(1,x*2,(y));": "f(1, x * 2, y);", "f((a+b)*c);": "f((a + b) * c);", "f(mutex a);": "f(mutex a);", "go f(mutex a[x+1],1,mutex b);": "go f(mutex a[x + 1], 1, mutex b);", "go f(-1,!x);": "go f(-1, !x);", "f(1,1,1,1,1,1,1,1);": "f(1, 1, 1, 1, 1, 1, 1, 1);",
	} {
		expectLines(t, s, want)
		expectLines(t, "if x{"+s+s+"}", "if x {", "\t"+want, "\t"+want, "}")
		expectLines(t, "while x{if y{}else{"+s+"}}"+s, "while x {", "\tif y {", "\t} else {", "\t\t"+want, "\t}", "}", want)
	}
}

func TestFormatBlocks(t *testing.T) { // P4.2
	expectLines(t, "")
	expectLines(t, "if x{}", "if x {", "}")
	expectLines(t, "if x{}else{}", "if x {", "}")
	expectLines(t, "if(x){return;}else{}", "if x {", "\treturn;", "}")
	expectLines(t, "if x{}else{return;}", "if x {", "} else {", "\treturn;", "}")
	expectLines(t, "if x<1{lock a;}else{lock b;unlock b;}return;", "if x < 1 {", "\tlock a;", "} else {", "\tlock b;", "\tunlock b;", "}", "return;")
	expectLines(t, "if(a+b)*c{}", "if (a + b) * c {", "}")
	expectLines(t, "if -x{}while!x{}", "if -x {", "}", "while !x {", "}")
	expectLines(t, "while x{}", "while x {", "}")
	expectLines(t, "while x{if y{}else{while z{}}}", "while x {", "\tif y {", "\t} else {", "\t\twhile z {", "\t\t}", "\t}", "}")
	expectLines(t, "if x{if y{}}else{if z{}else{return;}}", "if x {", "\tif y {", "\t}", "} else {", "\tif z {", "\t} else {", "\t\treturn;", "\t}", "}")
	var lines []string
	for i := range api.MaxNesting - 1 {
		lines = append(lines, strings.Repeat("\t", i)+"while x {")
	}
	for i := range api.MaxNesting - 1 {
		lines = append(lines, strings.Repeat("\t", api.MaxNesting-2-i)+"}")
	}
	expectLines(t, strings.Repeat("while x{", api.MaxNesting-1)+strings.Repeat("}", api.MaxNesting-1), lines...)
}

func TestExample(t *testing.T) { // the one of the chapter
	text := print.Format(mustParse(t, "mutex a; func main() { lock a; unlock a; }"))
	if lines := strings.Split(text, "\n"); len(lines) != 6 || lines[1] != "func main() {" || lines[5] != "" {
		t.Errorf("Format = %q", text)
	}
}

func TestStatements(t *testing.T) { // P4.3
	for s, want := range map[string]int{
		"": 0, "return;": 1, "lock a; unlock a;": 2, "f(1, 2, mutex a[x]);": 1,
		"if x { }": 1, "if x { } else { }": 1, "if x { return; }": 2, "if x { } else { return; }": 2, "if x { return; return; } else { return; return; return; }": 6, "while x { }": 1, "while x { return; }": 2,
		"while x { if y { lock a; } else { unlock a; return; } } return;": 6, "if x { if y { if z { } } } if x { } else { if y { } else { return; } }": 6,
	} {
		if got := print.Statements(mustParse(t, "func f() {"+s+"}").Funcs[0].Body); got != want {
			t.Errorf("Statements of %q = %d; want %d", s, got, want)
		}
	}
	if n := print.Statements([]api.Stmt{}); n != 0 {
		t.Errorf("Statements of an empty list = %d", n)
	}
}

func TestStatementsOfAny(t *testing.T) { // P4.3: also of statements that are not valid
	two := []api.Stmt{{}, {Kind: -5, Name: "if"}}
	for kind := -1; kind < 12; kind++ {
		l := []api.Stmt{{Kind: kind, Then: two, Else: []api.Stmt{{Kind: kind, Else: two}}}, {Kind: kind}}
		if n := print.Statements(l); n != 7 {
			t.Errorf("Statements of the kind %d = %d; want 7", kind, n)
		}
	}
}

// expectNumbers tests that the statements of l, the first of which has the number first, are those of the lines with their numbers.
func expectNumbers(t *testing.T, l []api.Stmt, first int, lines []string) {
	t.Helper()
	for i, s := range l {
		number := first + print.Statements(l[:i])
		alone := strings.Split(print.Format(body(s)), "\n")[1]
		if got := strings.TrimLeft(lines[number], "\t"); got != strings.TrimLeft(alone, "\t") {
			t.Fatalf("the statement %d is %q; want %q", number, got, alone)
		}
		expectNumbers(t, s.Then, number+1, lines)
		expectNumbers(t, s.Else, number+1+print.Statements(s.Then), lines)
	}
}

// compareNumbers tests that the statements of a function have their lines in the order of their numbers.
func compareNumbers(t *testing.T, f api.Func) {
	t.Helper()
	var lines []string
	text := strings.TrimSuffix(print.Format(api.Program{Funcs: []api.Func{f}}), "\n")
	for _, x := range strings.Split(text, "\n")[1:] {
		if !strings.HasPrefix(strings.TrimLeft(x, "\t"), "}") {
			lines = append(lines, x)
		}
	}
	if n := print.Statements(f.Body); n != len(lines) {
		t.Fatalf("Statements = %d; want %d", n, len(lines))
	}
	expectNumbers(t, f.Body, 0, lines)
}

func TestNumbers(t *testing.T) { // P4.3: a statement, then those in its Then, then those in its Else
	p := mustParse(t, "func f() { lock a; if x { lock b; while y { lock c; } lock d; } else { lock e; if z { } else { lock f; } } lock g; }")
	compareNumbers(t, p.Funcs[0])
}

// nest puts l into n statements, each in the block that put fills.
func nest(n int, l []api.Stmt, put func(l []api.Stmt) api.Stmt) []api.Stmt {
	for range n {
		l = []api.Stmt{put(l)}
	}
	return l
}

func inWhile(l []api.Stmt) api.Stmt { return api.Stmt{Kind: api.StmtWhile, Expr: x, Then: l} }

func inThen(l []api.Stmt) api.Stmt { return api.Stmt{Kind: api.StmtIf, Expr: x, Then: l} }

func inElse(l []api.Stmt) api.Stmt { return api.Stmt{Kind: api.StmtIf, Expr: x, Else: l} }

var puts = []func(l []api.Stmt) api.Stmt{inWhile, inThen, inElse}

// TestDeep has statements that are far deeper than the stack of calls may be.
func TestDeep(t *testing.T) { // R1, P4.1, P4.3
	defer debug.SetMaxStack(debug.SetMaxStack(1 << 20))
	const n = 200000
	for _, put := range puts {
		l := nest(n, []api.Stmt{ends, ends}, put)
		if got := print.Statements(l); got != n+2 {
			t.Errorf("Statements = %d; want %d", got, n+2)
		}
		if print.Valid(body(l...)) || print.Format(body(l...)) != "" {
			t.Error("deep statements are valid")
		}
	}
	e := x
	for range n {
		e = api.Expr{Op: api.OpAdd, Args: []api.Expr{e, x}}
	}
	set := api.Stmt{Kind: api.StmtAssign, Name: "x", Expr: e}
	if print.Valid(body(set)) || print.Format(body(set)) != "" || print.Statements([]api.Stmt{set, set}) != 2 {
		t.Error("a deep expression is valid")
	}
}
