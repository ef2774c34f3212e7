package print_test

import (
	"math/rand"
	"reflect"
	"strings"
	"testing"

	"lockorder/api"
	"lockorder/parse"
	"lockorder/print"
	"lockorder/token"
)

// compare tests Valid and Format against the reference, and P4.4, and reports whether p is valid.
func compare(t *testing.T, p api.Program) bool {
	t.Helper()
	tokens := lister{}.program(p)
	valid := isParsed(p, tokens)
	if got := print.Valid(p); got != valid {
		t.Fatalf("Valid(%.1000v) = %v", p, got)
	}
	text := print.Format(p)
	if !valid {
		if text != "" {
			t.Fatalf("Format(%.1000v) = %.1000q", p, text)
		}
		return false
	}
	if want := layout(tokens); text != want {
		t.Fatalf("Format(%v) = %q; want %q", p, text, want)
	}
	back, n, errno := parse.Program([]byte(text))
	if errno != api.OK || n != len(text) || len(text) > api.MaxBytes || !reflect.DeepEqual(plain(back), plain(p)) {
		t.Fatalf("Program(%q) = %v, %d, %d; want %v", text, back, n, errno, p)
	}
	return true
}

// count returns the number of tokens of a text that has no error.
func count(t *testing.T, text string) int {
	t.Helper()
	l, _, errno := token.Lex([]byte(text))
	if errno != api.OK {
		t.Fatalf("Lex(%.200q) = %d", text, errno)
	}
	return len(l) - 1
}

func TestAllSmallBodies(t *testing.T) { // P4.1, P4.2, P4.4: all lists of up to two of some statements and blocks
	arg := api.Arg{Mutex: true, Ref: a}
	leaves := []api.Stmt{
		{}, ends, locks, {Kind: api.StmtUnlock, Ref: api.Ref{Name: "a", Index: []api.Expr{sum}}}, {Kind: api.StmtVar, Name: "x", Expr: sum}, {Kind: api.StmtAssign, Name: "x", Expr: x},
		{Kind: api.StmtCall, Name: "f"}, {Kind: api.StmtGo, Name: "f", Args: []api.Arg{arg, {Expr: x}}}, {Kind: api.StmtIf, Expr: x}, {Kind: api.StmtWhile, Expr: x},
	}
	blocks := [][]api.Stmt{nil}
	for i := range leaves {
		blocks = append(blocks, leaves[i:i+1])
	}
	all := leaves
	for _, then := range blocks {
		all = append(all, api.Stmt{Kind: api.StmtWhile, Expr: sum, Then: then})
		for _, other := range blocks {
			all = append(all, api.Stmt{Kind: api.StmtIf, Expr: sum, Then: then, Else: other})
		}
	}
	compare(t, body())
	for _, first := range all {
		compare(t, body(first))
		for _, second := range all {
			compare(t, body(first, second))
		}
	}
}

func TestRandomPrograms(t *testing.T) { // P4.1, P4.2, P4.3, P4.4
	m := maker{r: rand.New(rand.NewSource(1))}
	for range 3000 {
		m.left = m.r.Intn(60)
		p := m.program()
		if !compare(t, p) {
			t.Fatalf("the program %v is not valid", p)
		}
		for _, f := range p.Funcs {
			compareNumbers(t, f)
		}
	}
}

func TestChangedPrograms(t *testing.T) { // P4.1, P4.2: programs that are not valid in one or two places, or valid after all
	m := maker{r: rand.New(rand.NewSource(2))}
	valid := 0
	const all = 20000
	for range all {
		m.left = m.r.Intn(12)
		p := m.program()
		for range 1 + m.r.Intn(2) {
			m.change(&p)
		}
		if compare(t, p) {
			valid++
		}
	}
	if valid < all/10 || valid > all*9/10 {
		t.Errorf("%d of %d programs are valid", valid, all)
	}
}

func TestOtherTexts(t *testing.T) { // P4.4: a text with tokens that change nothing has the same canonical text, with fewer tokens
	m := maker{r: rand.New(rand.NewSource(3))}
	fewer := 0
	for range 3000 {
		m.left = m.r.Intn(60)
		p := m.program()
		text := strings.Join(lister{m.r}.program(p), " ")
		before := count(t, text)
		if before > api.MaxTokens {
			continue
		}
		q := mustParse(t, text)
		if !reflect.DeepEqual(plain(q), plain(p)) || !print.Valid(q) || print.Format(q) != print.Format(p) {
			t.Fatalf("Format of %q = %q; want %q", text, print.Format(q), print.Format(p))
		}
		after := count(t, print.Format(q))
		if after > before {
			t.Fatalf("%q has %d tokens, its canonical text %d", text, before, after)
		}
		if after < before {
			fewer++
		}
	}
	if fewer < 1000 {
		t.Errorf("only %d texts have fewer tokens", fewer)
	}
}

func TestMostTokens(t *testing.T) { // P4.4: a parsed program is valid, even if its text has as many tokens as there may be
	for _, s := range []string{"", "x();", "if x { } else { }", "x = (1);", "lock a; unlock a[-x];"} {
		text := "func f() {" + s + "}"
		missing := api.MaxTokens - count(t, text)
		text = strings.TrimSuffix(text, "}") + strings.Repeat("lock a;", missing%2) + strings.Repeat("return;", (missing-3*(missing%2))/2) + "}"
		if n := count(t, text); n != api.MaxTokens {
			t.Fatalf("the text has %d tokens", n)
		}
		p := mustParse(t, text)
		if !compare(t, p) {
			t.Errorf("the program that begins with %q is not valid", s)
		}
		// What the canonical text leaves out does not count.
		free := api.MaxTokens - count(t, print.Format(p))
		p.Funcs[0].Body = append(p.Funcs[0].Body, ends)
		if compare(t, p) != (free >= 2) {
			t.Errorf("the program that begins with %q and has %d tokens less", s, free)
		}
	}
}

func TestMemory(t *testing.T) { // R2, R3: nothing is changed, and the results are the same again
	m := maker{r: rand.New(rand.NewSource(4))}
	for range 500 {
		m.left = m.r.Intn(60)
		p := m.program()
		if m.r.Intn(2) == 0 {
			m.change(&p)
		}
		before := plain(p)
		text, valid := print.Format(p), print.Valid(p)
		for _, f := range p.Funcs {
			if n := print.Statements(f.Body); n != print.Statements(f.Body) {
				t.Fatalf("Statements = %d, and then another number", n)
			}
		}
		if text != print.Format(p) || valid != print.Valid(p) || !reflect.DeepEqual(before, plain(p)) {
			t.Fatalf("%v: Format and Valid change something", p)
		}
	}
}

func FuzzFormat(f *testing.F) { // P4.1 to P4.4
	f.Add("var x; func f(n, mutex m) { if (n) { lock m; } else { } f(-n, mutex a[n]); }", int64(1))
	f.Add("mutex a[3]; rmutex b; func main() { while 1 { go f(); return; } unlock b; }", int64(2))
	f.Fuzz(func(t *testing.T, src string, seed int64) {
		p, _, errno := parse.Program([]byte(src))
		if errno != api.OK {
			return
		}
		if !compare(t, p) || count(t, print.Format(p)) > count(t, src) {
			t.Fatalf("Format of %q = %q", src, print.Format(p))
		}
		for _, f := range p.Funcs {
			compareNumbers(t, f)
		}
		m := maker{r: rand.New(rand.NewSource(seed))}
		m.change(&p)
		compare(t, p)
	})
}
