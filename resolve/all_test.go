package resolve_test

import (
	"math/rand"
	"reflect"
	"strings"
	"testing"

	"lockorder/api"
	"lockorder/parse"
	"lockorder/print"
)

// compare tests Check against the reference and returns the result.
func compare(t *testing.T, p api.Program) result {
	t.Helper()
	want := invalid
	text := ""
	if print.Valid(p) {
		text = print.Format(p)
		want = reference(text)
	}
	if got := check(p); got != want {
		t.Fatalf("Check of %q (%.1000v) = %v; want %v", text, p, got, want)
	}
	return want
}

// compareText tests Check for a text.
func compareText(t *testing.T, s string) result {
	t.Helper()
	return compare(t, mustParse(t, s))
}

func TestReference(t *testing.T) { // the reference itself
	for s, want := range map[string]result{
		"": noMain, "func main() { }": right, "var a; mutex a;": {-1, 1, api.ErrDuplicate}, "func main() { } func f(x, mutex x) { }": {1, -1, api.ErrDuplicate},
		"mutex l[2]; func main() { if 1 { var x = (1); lock l[x]; } else { lock l[x]; } }":                            {0, 3, api.ErrUnknown},
		"mutex l[2]; func f(a, mutex b) { if (a) { } f((a + 1) * 2, mutex l[a]); } func main() { go f(1, mutex l); }": {1, 0, api.ErrSort},
	} {
		if got := reference(print.Format(mustParse(t, s))); got != want {
			t.Errorf("reference(%q) = %v; want %v", s, got, want)
		}
	}
}

func TestAllSmallStatements(t *testing.T) { // P5.2: all statements with up to three names, each of every sort
	names := strings.Fields("v s l f m p x both")
	refs := append([]string{}, names...)
	for _, a := range names {
		for _, b := range names {
			refs = append(refs, a+"["+b+"]")
		}
	}
	args := append([]string{}, names...)
	for _, r := range refs {
		args = append(args, "mutex "+r)
	}
	var all []string
	for _, a := range names {
		all = append(all, "if "+a+" { }", "while "+a+" { }", a+"();", "go "+a+"();")
		for _, b := range names {
			all = append(all, "var "+a+" = "+b+";", a+" = "+b+";", "lock "+b+"["+a+" + 1];")
			for _, c := range names {
				all = append(all, a+" = "+b+" - "+c+";", "var "+a+" = "+b+" * "+c+";")
			}
		}
		for _, b := range args {
			all = append(all, a+"("+b+");", "go "+a+"("+b+");")
		}
	}
	for _, r := range refs {
		all = append(all, "lock "+r+";", "unlock "+r+";")
	}
	for _, b := range args {
		for _, c := range args {
			all = append(all, "both("+b+", "+c+");")
		}
	}
	for _, s := range all {
		compareText(t, "var v; mutex s; mutex l[2]; func both(i, mutex n) { } func main() { } func f(p, mutex m) { return; "+s+" }")
	}
}

func TestAllSmallBodies(t *testing.T) { // P5.1: all bodies with few statements that declare and use names
	leaves := []string{"", "var x = 1;", "x = 2;", "var y = x;"}
	all := leaves[1:]
	for _, then := range leaves {
		for _, other := range leaves {
			all = append(all, "if 1 { "+then+" } else { "+other+" }")
		}
		all = append(all, "while x { "+then+" }", "while 1 { "+then+" if x { "+then+" } }")
	}
	for _, a := range all {
		for _, b := range all {
			compareText(t, "func main() { "+a+b+" } func f(x) { "+b+" } func g() { "+a+" }")
			for _, c := range all {
				compareText(t, "func main() { "+a+" while 1 { "+b+" } "+c+" }")
			}
		}
	}
}

func TestAllDeclarations(t *testing.T) { // P5.1: all programs of four declarations, each of any sort and with any of three names
	var all []string
	for _, name := range []string{"a", "main", "b"} {
		all = append(all, "var "+name+";", "mutex "+name+";", "func "+name+"() { }", "func "+name+"(a) { }")
	}
	for _, a := range all {
		for _, b := range all {
			for _, c := range all {
				for _, d := range all {
					compareText(t, a+b+c+d)
				}
			}
		}
	}
}

func TestRightPrograms(t *testing.T) { // P5.1, P5.2: programs without a mistake
	m := maker{r: rand.New(rand.NewSource(1))}
	for range 3000 {
		m.left = m.r.Intn(40)
		if p := m.program(); compare(t, p) != right {
			t.Fatalf("Check of %q = %v", print.Format(p), check(p))
		}
	}
}

func TestWrongPrograms(t *testing.T) { // P5.1, P5.2: programs with mistakes
	m := maker{r: rand.New(rand.NewSource(2))}
	found := map[api.Errno]int{}
	for range 12000 {
		m.mistakes = 5 + m.r.Intn(100)
		m.left = m.r.Intn(40)
		p := m.program()
		if m.r.Intn(10) == 0 && len(p.Globals) > 0 {
			p.Globals[0].Name = []string{"if", "", "1", "x;"}[m.r.Intn(4)]
		}
		found[compare(t, p).errno]++
	}
	for _, errno := range []api.Errno{api.OK, api.ErrDuplicate, api.ErrUnknown, api.ErrArity, api.ErrSort, api.ErrMain, api.ErrInvalid} {
		if found[errno] < 100 {
			t.Errorf("only %d programs have the error %d", found[errno], errno)
		}
	}
}

// rename returns a copy of p in which names are replaced.
func rename(t *testing.T, p api.Program, change func(string) string) api.Program {
	t.Helper()
	q := mustParse(t, print.Format(p))
	changeTexts(reflect.ValueOf(&q).Elem(), func(s string) string {
		if s == "" || s == "main" {
			return s
		}
		return change(s)
	})
	return q
}

func TestRenaming(t *testing.T) { // P5.3
	m := maker{r: rand.New(rand.NewSource(3))}
	for range 300 {
		m.mistakes = m.r.Intn(60)
		m.left = m.r.Intn(30)
		p := m.program()
		want := check(p)
		for old := range strings.FieldsSeq(pool) {
			for _, s := range []string{"q", "Main", "ABCDEFGHIJKLMNOP"} {
				q := rename(t, p, func(name string) string {
					if name == old {
						return s
					}
					return name
				})
				if got := check(q); got != want {
					t.Fatalf("Check of %q = %v; with %q as %q it is %v", print.Format(p), want, old, s, got)
				}
			}
		}
		// All names at once, so that their order is another one.
		q := rename(t, p, func(name string) string { return "z" + string('z'-name[0]%26) + name[:min(len(name), 10)] })
		if got := check(q); got != want {
			t.Fatalf("Check of %q = %v, and of %q %v", print.Format(p), want, print.Format(q), got)
		}
	}
}

func TestMemory(t *testing.T) { // R2, R3: nothing is changed or kept, and the result is the same again
	for seed := range int64(500) {
		one := maker{r: rand.New(rand.NewSource(seed)), mistakes: int(seed % 50), left: 30}
		two := maker{r: rand.New(rand.NewSource(seed)), mistakes: int(seed % 50), left: 30}
		p, q := one.program(), two.program()
		want := check(p)
		if !reflect.DeepEqual(p, q) {
			t.Fatalf("Check changes %v to %v", q, p)
		}
		changeTexts(reflect.ValueOf(&p).Elem(), func(s string) string { return "main" })
		check(p)
		if got := check(q); got != want {
			t.Fatalf("Check = %v, and then %v", want, got)
		}
	}
}

func FuzzCheck(f *testing.F) { // P5.1, P5.2
	f.Add("var x; mutex a[2]; func f(n, mutex m) { if (n) { lock m; var y = x; } else { y = 1; } f(-n, mutex a[n]); } func main() { }")
	f.Add("mutex a; rmutex b; func main() { while 1 { go f(); return; } unlock b; main(1); }")
	f.Add("func main() { var x = 1; x(); lock x[1]; f(mutex y, y); } func f(x, x) { }")
	f.Fuzz(func(t *testing.T, src string) {
		p, _, errno := parse.Program([]byte(src))
		if errno == api.OK {
			compare(t, p)
		}
	})
}
