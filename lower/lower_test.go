package lower_test

import (
	"slices"
	"strings"
	"testing"

	"lockorder/api"
	"lockorder/lower"
	"lockorder/print"
)

// expectListing tests the code of the program of a text.
func expectListing(t *testing.T, s string, want ...string) {
	t.Helper()
	if got := listing(t, mustParse(t, s)); !slices.Equal(got, want) {
		t.Errorf("the code of %.300q is %q; want %q", s, got, want)
	}
}

// Everything that may be declared, for the tests of statements; they are in the function f4.
const declared = "var v; var w = 5; mutex s; rmutex r; mutex c[3]; func none() { } func one(x) { } func two(x, y) { } func mixed(mutex m, x, mutex n, y) { } func main() { "

// expectCode tests the code of the statements of the function main of declared, given as in a listing, without the InstrReturn at the end.
func expectCode(t *testing.T, body string, want ...string) {
	t.Helper()
	p := mustParse(t, declared+body+" }")
	l := listing(t, p)
	got := l[slices.IndexFunc(l, func(s string) bool { return strings.HasPrefix(s, "f4 = ") })+1:]
	if !slices.Equal(got[:len(got)-1], want) || !strings.HasSuffix(got[len(got)-1], " return") {
		t.Errorf("the code of %.300q is %q; want %q", body, got, want)
	}
}

func TestExample(t *testing.T) { // the one of the chapter
	expectListing(t, "var x; mutex a; func main() { while x { lock a; } }", "main f0", "g0 = 0", "m0 = a false 0", "f0 = main 0 0 0", "0 0 branch 3 unless g0", "1 1 lock m0", "2 0 jump 0", "3 2 return")
}

func TestUnit(t *testing.T) { // P6.1: what is declared, in its order
	expectListing(t, "func main() { }", "main f0", "f0 = main 0 0 0", "0 0 return")
	expectListing(t, "func g() { } mutex c[64]; var y = -3; rmutex b; func main() { } var x; mutex a; var z = 9223372036854775807; func f() { }",
		"main f1", "g0 = -3", "g1 = 0", "g2 = 9223372036854775807", "m0 = c false 64", "m1 = b true 0", "m2 = a false 0",
		"f0 = g 0 0 0", "0 0 return", "f1 = main 0 0 0", "0 0 return", "f2 = f 0 0 0", "0 0 return")
	expectListing(t, "func z() { } func a() { } func main() { }", "main f2", "f0 = z 0 0 0", "0 0 return", "f1 = a 0 0 0", "0 0 return", "f2 = main 0 0 0", "0 0 return")
}

func TestProcedure(t *testing.T) { // P6.1: the numbers of parameters and local variables
	for f, numbers := range map[string]string{
		"(){}": "0 0 0", "(x){}": "1 0 1", "(mutex x){}": "0 1 0", "(x,mutex y,z){}": "2 1 2", "(mutex a,mutex b,x,mutex d,y,mutex e){}": "2 4 2", "(a,b,d,e,g,h){}": "6 0 6",
		"(){var x=1;}": "0 0 1", "(x){var y=1;var z=2;}": "1 0 3", "(mutex x,y){if y{var z=1;}else{var z=2;}while y{var z=3;}var z=4;}": "1 1 5", "(){return;var x=1;}": "0 0 1",
		"(){while 0{while 0{if 0{var x=1;}else{var y=1;}}}}": "0 0 2",
	} {
		if got, want := listing(t, mustParse(t, "func f"+f+"func main(){}"))[1], "f0 = f "+numbers; got != want {
			t.Errorf("%q is %q; want %q", f, got, want)
		}
	}
}

func TestLocals(t *testing.T) { // P6.1, P6.2: the order of local variables, and those of the same name
	expectListing(t, "var g; func f(a, mutex m, b) { var z = a; if b { var y = z; g = y; } else { var y = b; y = z; } while g { var x = 1; var y = x; } var y = a; y = y + z; } func main() { var a = 1; var z = a; }",
		"main f1", "g0 = 0", "f0 = f 2 1 8",
		"0 0 l2 = l0", "1 1 branch 5 unless l1", "2 2 l3 = l2", "3 3 g0 = l3", "4 1 jump 7", "5 4 l4 = l1", "6 5 l4 = l2", "7 6 branch 11 unless g0", "8 7 l5 = 1", "9 8 l6 = l5", "10 6 jump 7", "11 9 l7 = l0", "12 10 l7 = l7 + l2", "13 11 return",
		"f1 = main 0 0 2", "0 0 l0 = 1", "1 1 l1 = l0", "2 2 return")
}

func TestSimpleStatements(t *testing.T) { // P6.2
	for s, want := range map[string]string{
		"var x = 1;": "l0 = 1", "var x = v;": "l0 = g0", "v = 1;": "g0 = 1", "w = v;": "g1 = g0", "w = -w;": "g1 = -g1",
		"none();": "call f0 () ()", "one(w);": "call f1 (g1) ()", "two(1, v + 2);": "call f2 (1, g0 + 2) ()", "main();": "call f4 () ()", "go none();": "go f0 () ()", "go main();": "go f4 () ()", "go two(v, w);": "go f2 (g0, g1) ()",
		"mixed(mutex r, 1, mutex s, 2);": "call f3 (1, 2) (m1, m0)", "go mixed(mutex c[v], 1 + w, mutex c[0], -2);": "go f3 (1 + g1, -2) (m2[g0], m2[0])", "mixed(mutex s, v, mutex s, v);": "call f3 (g0, g0) (m0, m0)",
		"lock s;": "lock m0", "lock r;": "lock m1", "lock c[2];": "lock m2[2]", "lock c[v - w];": "lock m2[g0 - g1]", "unlock s;": "unlock m0", "unlock r;": "unlock m1", "unlock c[-1];": "unlock m2[-1]", "lock c[9];": "lock m2[9]",
		"return;": "return",
	} {
		expectCode(t, s, "0 0 "+want)
		if !strings.HasPrefix(s, "var ") {
			expectCode(t, s+s+"v = 1;", "0 0 "+want, "1 1 "+want, "2 2 g0 = 1")
		}
	}
}

func TestExpressions(t *testing.T) { // P6.2: names become numbers, and all else stays
	for s, want := range map[string]string{
		"0": "0", "9223372036854775807": "9223372036854775807", "v": "g0", "w": "g1", "i": "l0", "j": "l1", "-v": "-g0", "!i": "!l0", "!-!j": "!-!l1",
		"v - (w - i)": "g0 - (g1 - l0)", "v - w - i": "g0 - g1 - l0", "(i + 1) * -(j % 3)": "(l0 + 1) * -(l1 % 3)", "v && i || w && !(j == 2)": "g0 && l0 || g1 && !(l1 == 2)",
	} {
		for before, after := range map[string]string{"v = ?;": "g0 = ?", "i = ?;": "l0 = ?", "var k = ?;": "l2 = ?", "one(?);": "call f1 (?) ()", "go two(3, ?);": "go f2 (3, ?) ()", "lock c[?];": "lock m2[?]", "mixed(mutex c[?], 1, mutex s, ?);": "call f3 (1, ?) (m2[?], m0)"} {
			expectCode(t, "var i = 1; var j = 2; "+strings.ReplaceAll(before, "?", s), "0 0 l0 = 1", "1 1 l1 = 2", "2 2 "+strings.ReplaceAll(after, "?", want))
		}
		expectCode(t, "var i = 1; var j = 2; if "+s+" { }", "0 0 l0 = 1", "1 1 l1 = 2", "2 2 branch 3 unless "+want)
		expectCode(t, "var i = 1; var j = 2; while "+s+" { }", "0 0 l0 = 1", "1 1 l1 = 2", "2 2 branch 4 unless "+want, "3 2 jump 2")
	}
	for op := range strings.FieldsSeq("* / % + - < <= > >= == != && ||") {
		expectCode(t, "v = w "+op+" 1;", "0 0 g0 = g1 "+op+" 1")
	}
}

func TestMutexParameters(t *testing.T) { // P6.2: they are numbered among themselves
	expectListing(t, "mutex a; mutex b; func f(x, mutex m, y, mutex n) { lock n; unlock m; lock b; f(y, mutex n, x, mutex m); go f(1, mutex a, 2, mutex n); } func main() { }",
		"main f1", "m0 = a false 0", "m1 = b false 0", "f0 = f 2 2 2", "0 0 lock p1", "1 1 unlock p0", "2 2 lock m1", "3 3 call f0 (l1, l0) (p1, p0)", "4 4 go f0 (1, 2) (m0, p1)", "5 5 return", "f1 = main 0 0 0", "0 0 return")
	// In another function the same name stands for something else.
	expectListing(t, "mutex a; func f(mutex m, mutex n) { lock m; } func g(x, m, mutex n) { lock n; x = m; } func main() { var n = 1; var m = n; lock a; }",
		"main f2", "m0 = a false 0", "f0 = f 0 2 0", "0 0 lock p0", "1 1 return", "f1 = g 2 1 2", "0 0 lock p0", "1 1 l0 = l1", "2 2 return", "f2 = main 0 0 2", "0 0 l0 = 1", "1 1 l1 = l0", "2 2 lock m0", "3 3 return")
}

func TestBlocks(t *testing.T) { // P6.2, P6.3
	for s, want := range map[string]string{
		"if v { }":                 "0 0 branch 1 unless g0",
		"if v { } else { }":        "0 0 branch 1 unless g0",
		"if v { w = 1; }":          "0 0 branch 2 unless g0|1 1 g1 = 1",
		"if v { } else { w = 1; }": "0 0 branch 2 unless g0|1 0 jump 3|2 1 g1 = 1",
		"if v { w = 1; } else { w = 2; v = 3; } v = 4;": "0 0 branch 3 unless g0|1 1 g1 = 1|2 0 jump 5|3 2 g1 = 2|4 3 g0 = 3|5 4 g0 = 4",
		"while v { }":                                                   "0 0 branch 2 unless g0|1 0 jump 0",
		"while v { w = 1; v = 2; } none();":                             "0 0 branch 4 unless g0|1 1 g1 = 1|2 2 g0 = 2|3 0 jump 0|4 3 call f0 () ()",
		"none(); while v { return; }":                                   "0 0 call f0 () ()|1 1 branch 4 unless g0|2 2 return|3 1 jump 1",
		"if v { return; } else { return; }":                             "0 0 branch 3 unless g0|1 1 return|2 0 jump 4|3 2 return",
		"if 1 { } if 2 { } else { return; } while 3 { }":                "0 0 branch 1 unless 1|1 1 branch 3 unless 2|2 1 jump 4|3 2 return|4 3 branch 6 unless 3|5 3 jump 4",
		"if 1 { if 2 { } }":                                             "0 0 branch 2 unless 1|1 1 branch 2 unless 2",
		"if 1 { } else { if 2 { } }":                                    "0 0 branch 2 unless 1|1 0 jump 3|2 1 branch 3 unless 2",
		"if 1 { } else { if 2 { } else { if 3 { } else { return; } } }": "0 0 branch 2 unless 1|1 0 jump 7|2 1 branch 4 unless 2|3 1 jump 7|4 2 branch 6 unless 3|5 2 jump 7|6 3 return",
		"if 1 { while 2 { } } else { while 3 { none(); } }":             "0 0 branch 4 unless 1|1 1 branch 3 unless 2|2 1 jump 1|3 0 jump 7|4 2 branch 7 unless 3|5 3 call f0 () ()|6 2 jump 4",
		"while 1 { while 2 { while 3 { } } }":                           "0 0 branch 6 unless 1|1 1 branch 5 unless 2|2 2 branch 4 unless 3|3 2 jump 2|4 1 jump 1|5 0 jump 0",
		"while 1 { if 2 { return; } else { none(); } }":                 "0 0 branch 6 unless 1|1 1 branch 4 unless 2|2 2 return|3 1 jump 5|4 3 call f0 () ()|5 0 jump 0",
		"while 1 { if 2 { } }":                                          "0 0 branch 3 unless 1|1 1 branch 2 unless 2|2 0 jump 0",
	} {
		expectCode(t, s, strings.Split(want, "|")...)
	}
}

func TestEmptyElse(t *testing.T) { // P6.2, R5: an Else without statements has no InstrJump, whether it is nil or not
	one := api.Expr{Op: api.OpNumber, Num: 1, Args: []api.Expr{}}
	s := api.Stmt{Kind: api.StmtIf, Expr: one, Then: []api.Stmt{}, Else: []api.Stmt{}, Args: []api.Arg{}, Ref: api.Ref{Index: []api.Expr{}}}
	call := api.Stmt{Kind: api.StmtCall, Name: "f", Args: []api.Arg{{Mutex: true, Ref: api.Ref{Name: "a", Index: []api.Expr{}}, Expr: api.Expr{Args: []api.Expr{}}}}}
	p := api.Program{Globals: []api.Global{}, Mutexes: []api.Mutex{{Name: "a"}}, Funcs: []api.Func{{Name: "main", Params: []api.Param{}, Body: []api.Stmt{s, call}}, {Name: "f", Params: []api.Param{{Name: "m", Mutex: true}}}}}
	want := []string{"main f0", "m0 = a false 0", "f0 = main 0 0 0", "0 0 branch 1 unless 1", "1 1 call f1 () (m0)", "2 2 return", "f1 = f 0 1 0", "0 0 return"}
	if got := listing(t, p); !slices.Equal(got, want) {
		t.Errorf("the code is %q; want %q", got, want)
	}
}

func TestSitesOfOthers(t *testing.T) { // P6.3
	p := mustParse(t, "func f() { return; } func main() { }")
	for _, f := range []int{-1 << 63, -1, 2, 3, 1<<63 - 1} {
		if got := lower.Sites(p, f); len(got) != 0 {
			t.Errorf("Sites(.., %d) = %v", f, got)
		}
	}
	if one, two := lower.Sites(p, 0), lower.Sites(p, 1); !slices.Equal(one, []int{0, 1}) || !slices.Equal(two, []int{0}) {
		t.Errorf("Sites = %v, %v", one, two)
	}
}

func TestErrors(t *testing.T) { // P6.1: those of resolve.Check, with its numbers; P6.3: then there are no Sites
	invalid := mustParse(t, "func main() { return; }")
	invalid.Funcs[0].Body[0].Name = "x"
	wrong := []api.Program{{}, invalid}
	found := map[api.Errno]bool{}
	for _, s := range []string{
		"func f() { }", "func main(x) { }", "mutex main;", "var a; mutex a; func main() { }", "func main() { } func f() { } func main() { }", "func main() { } func f(x, x) { }", "func main() { } func f(f) { return; }",
		"func main() { return; while 1 { x = 1; } }", "func main() { } func f() { if x { } }", "mutex a; func main() { lock a[0]; }", "var x; func main() { return; lock x; }", "mutex a[2]; func main() { lock a; }", "func main() { return; return; main(1); }", "func main() { } func f(mutex m) { f(1); }",
		"func main() { var x = x; }", "func main() { if 1 { var x = 1; } x = 1; }",
	} {
		wrong = append(wrong, mustParse(t, s+" func last() { }"))
	}
	for _, p := range wrong {
		found[compareError(t, p)] = true
	}
	for _, errno := range []api.Errno{api.ErrInvalid, api.ErrDuplicate, api.ErrMain, api.ErrUnknown, api.ErrSort, api.ErrArity} {
		if !found[errno] {
			t.Errorf("no program has the error %d", errno)
		}
	}
}

func TestLargest(t *testing.T) { // R1, P6.2, P6.4: programs with as many tokens, and blocks as deep, as there may be
	sum := "v" + strings.Repeat(" + v", (api.MaxTokens-20)/2)
	expectListing(t, "var v; func main() { v = "+sum+"; }", "main f0", "g0 = 0", "f0 = main 0 0 0", "0 0 g0 = "+strings.ReplaceAll(sum, "v", "g0"), "1 1 return")
	for s, want := range map[string]int{
		"func main() { " + strings.Repeat("return; ", 1990) + "}":                                                      1991,
		"func main() { " + strings.Repeat("while 1 { ", 23) + "return;" + strings.Repeat("}", 23) + " }":               48,
		"func main() { " + strings.Repeat("if 1 { } else { ", 23) + "return;" + strings.Repeat("}", 23) + " }":         48,
		"func main() { " + strings.Repeat("if 1 { ", 23) + "return;" + strings.Repeat("} else { return; }", 23) + " }": 71,
		"var v; func main() { v = " + strings.Repeat("-(", 12) + "v" + strings.Repeat(")", 12) + "; }":                 2,
		"mutex a[2]; func main() { " + strings.Repeat("lock a[1 + 1]; ", 495) + "}":                                    496,
		"func main() { " + strings.Repeat("if 1 { var x = 1; x = x; } ", 280) + "}":                                    841,
	} {
		p := mustParse(t, s)
		if got, want := listing(t, p), reference(print.Format(p)); !slices.Equal(got, want) {
			t.Errorf("the code of %.100q is %.1000q; want %.1000q", s, got, want)
		}
		if got := len(mustLower(t, p).Procs[0].Code); got != want {
			t.Errorf("the code of %.100q has %d instructions; want %d", s, got, want)
		}
	}
}

func TestEndless(t *testing.T) { // R1: lists that contain themselves
	loop := []api.Stmt{{Kind: api.StmtWhile, Expr: api.Expr{Op: api.OpNumber}}}
	loop[0].Then = loop
	negate := []api.Expr{{Op: api.OpNegate}}
	negate[0].Args = negate
	for _, body := range [][]api.Stmt{loop, {{Kind: api.StmtVar, Name: "x", Expr: negate[0]}}} {
		if got := compareError(t, api.Program{Funcs: []api.Func{{Name: "main", Body: body}}}); got != api.ErrInvalid {
			t.Errorf("Lower has the error %d", got)
		}
	}
}
