package lower_test

import (
	"math/rand"
	"reflect"
	"slices"
	"strings"
	"testing"

	"lockorder/api"
	"lockorder/lower"
	"lockorder/parse"
	"lockorder/print"
	"lockorder/resolve"
	"lockorder/token"
)

// compare tests Lower and Sites against the reference, and the consequences of P6.4. It returns the error of the program.
func compare(t *testing.T, p api.Program) api.Errno {
	t.Helper()
	if _, _, errno := resolve.Check(p); errno != api.OK {
		return compareError(t, p)
	}
	text := print.Format(p)
	if got, want := listing(t, p), reference(text); !slices.Equal(got, want) {
		t.Fatalf("the code of %q is %q; want %q", text, got, want)
	}
	for i, x := range mustLower(t, p).Procs {
		if x.Code[len(x.Code)-1].Op != api.InstrReturn {
			t.Fatalf("the function %d of %q does not end with a return", i, text)
		}
		for _, instr := range x.Code {
			isJump := instr.Op == api.InstrBranch || instr.Op == api.InstrJump
			if isJump && (instr.Target < 0 || instr.Target >= len(x.Code)) {
				t.Fatalf("the function %d of %q has the target %d", i, text, instr.Target)
			}
		}
		if sites := lower.Sites(p, i); sites[len(sites)-1] != print.Statements(p.Funcs[i].Body) {
			t.Fatalf("Sites of the function %d of %q = %v", i, text, sites)
		}
	}
	return api.OK
}

// compareError tests Lower and Sites for a program that is wrong.
func compareError(t *testing.T, p api.Program) api.Errno {
	t.Helper()
	u, f, n, errno := lower.Lower(p)
	function, statement, want := resolve.Check(p)
	if errno == api.OK || f != function || n != statement || errno != want || !reflect.DeepEqual(u, api.Unit{}) {
		t.Fatalf("Lower of %q = %v, %d, %d, %d; want %d, %d, %d", print.Format(p), u, f, n, errno, function, statement, want)
	}
	for i := range p.Funcs {
		if got := lower.Sites(p, i); len(got) != 0 {
			t.Fatalf("Sites of the function %d of %q = %v", i, print.Format(p), got)
		}
	}
	return errno
}

func TestReference(t *testing.T) { // the reference itself
	for s, want := range map[string]string{
		"func main() {\n}\n": "main f0|f0 = main 0 0 0|0 0 return",
		"var x = -2;\nvar y;\nmutex a;\nrmutex b;\nmutex c[3];\nfunc main() {\n\tlock c[x];\n\tgo f(y, mutex b, x + 1);\n\tf(1, mutex c[x], 2);\n}\nfunc f(n, mutex m, k) {\n\tvar z = n;\n\tunlock m;\n}\n": "main f0|g0 = -2|g1 = 0|m0 = a false 0|m1 = b true 0|m2 = c false 3|f0 = main 0 0 0|0 0 lock m2[g0]|1 1 go f1 (g1, g0 + 1) (m1)|2 2 call f1 (1, 2) (m2[g0])|3 3 return|f1 = f 2 1 3|0 0 l2 = l0|1 1 unlock p0|2 2 return",
		"func main() {\n\tif 1 {\n\t\tif 2 {\n\t\t}\n\t} else {\n\t\treturn;\n\t}\n\twhile 3 {\n\t\tvar x = 4;\n\t}\n\tvar x = 5;\n}\n":                                                                      "main f0|f0 = main 0 0 2|0 0 branch 3 unless 1|1 1 branch 2 unless 2|2 0 jump 4|3 2 return|4 3 branch 7 unless 3|5 4 l0 = 4|6 3 jump 4|7 5 l1 = 5|8 6 return",
	} {
		if got := reference(s); !slices.Equal(got, strings.Split(want, "|")) {
			t.Errorf("reference(%q) = %q; want %q", s, got, want)
		}
	}
}

func TestAllSmallBodies(t *testing.T) { // P6.2 to P6.4: all nestings of blocks with few statements
	leaves := []string{"", "x = 1;", "return;", "var y = x;"}
	all := leaves[1:]
	for _, then := range leaves {
		for _, other := range leaves {
			all = append(all, "if x { "+then+" } else { "+other+" }")
		}
		all = append(all, "while x { "+then+" }", "while 1 { "+then+" if x { x = 2; } }")
	}
	for _, one := range all {
		for _, two := range all {
			for _, s := range []string{one + two, one + " while 2 { " + two + " }", "if 3 { " + one + " } else { " + two + " }", "while 4 { if 5 { " + one + " } " + two + " }", "while 4 { " + one + " while 5 { " + two + " } }"} {
				compare(t, mustParse(t, "var x; func main() { "+s+" }"))
			}
		}
	}
}

func TestRandomPrograms(t *testing.T) { // P6.1 to P6.4
	m := maker{r: rand.New(rand.NewSource(1))}
	for range 3000 {
		if s := m.program(); compare(t, mustParse(t, s)) != api.OK {
			t.Fatalf("%q is not right", s)
		}
	}
}

func TestWrongPrograms(t *testing.T) { // P6.1: programs in which one name is another one of the program
	m := maker{r: rand.New(rand.NewSource(2))}
	found := map[api.Errno]int{}
	for range 8000 {
		s := m.program()
		l := nameOrWord.FindAllStringIndex(s, -1)
		from, to := l[m.r.Intn(len(l))], l[m.r.Intn(len(l))]
		p, _, errno := parse.Program([]byte(s[:from[0]] + s[to[0]:to[1]] + s[from[1]:]))
		if errno == api.OK {
			found[compare(t, p)]++
		}
	}
	for _, errno := range []api.Errno{api.OK, api.ErrDuplicate, api.ErrUnknown, api.ErrArity, api.ErrSort, api.ErrMain} {
		if found[errno] < 10 {
			t.Errorf("only %d programs have the error %d", found[errno], errno)
		}
	}
}

func TestRenaming(t *testing.T) { // P6.4
	m := maker{r: rand.New(rand.NewSource(3))}
	for range 500 {
		s := m.program()
		// All names get another order, and names of different kinds and lengths.
		renamed := nameOrWord.ReplaceAllStringFunc(s, func(name string) string {
			if name == "main" || token.Reserved(name) {
				return name
			}
			return "_" + string('z'-name[0]+'A') + strings.Repeat("0", int(name[0]-'a')%12) + name[1:]
		})
		one, two := mustParse(t, s), mustParse(t, renamed)
		u, v := mustLower(t, one), mustLower(t, two)
		for i := range u.Procs {
			if x, y := u.Procs[i].Name, v.Procs[i].Name; x != one.Funcs[i].Name || y != two.Funcs[i].Name {
				t.Fatalf("the procedure %d of %q has the name %q, and renamed %q", i, s, x, y)
			}
			u.Procs[i].Name = v.Procs[i].Name
			if !slices.Equal(lower.Sites(one, i), lower.Sites(two, i)) {
				t.Fatalf("Sites of the function %d of %q and %q are not the same", i, s, renamed)
			}
		}
		for i := range u.Mutexes {
			u.Mutexes[i].Name = v.Mutexes[i].Name
		}
		if !reflect.DeepEqual(u, v) {
			t.Fatalf("the code of %q is %v, and of %q %v", s, u, renamed, v)
		}
	}
}

// visit calls see for every item of every slice in v, as far as the capacities reach, and clears what it has seen if clear is true.
func visit(v reflect.Value, see func(item reflect.Value), clear bool) {
	switch v.Kind() {
	case reflect.Struct:
		for i := range v.NumField() {
			visit(v.Field(i), see, clear)
		}
	case reflect.Slice:
		all := v.Slice(0, v.Cap())
		for i := range all.Len() {
			see(all.Index(i))
			visit(all.Index(i), see, clear)
			if clear {
				all.Index(i).SetZero()
			}
		}
	}
}

func TestMemory(t *testing.T) { // R2, R3: nothing is changed, kept or shared, and the result is the same again
	m := maker{r: rand.New(rand.NewSource(4))}
	for range 500 {
		s := m.program()
		p := mustParse(t, s)
		p.Funcs[0].Body = append(p.Funcs[0].Body, p.Funcs[0].Body...) // statements that share memory
		if _, _, errno := resolve.Check(p); errno != api.OK {
			p = mustParse(t, s)
		}
		text := print.Format(p)
		u, sites := mustLower(t, p), lower.Sites(p, 0)
		want := listing(t, p)
		seen := map[uintptr]bool{}
		arguments := func(item reflect.Value) { seen[item.Addr().Pointer()] = true }
		results := func(item reflect.Value) {
			if seen[item.Addr().Pointer()] {
				t.Fatalf("the code of %q shares memory", text)
			}
			seen[item.Addr().Pointer()] = true
		}
		visit(reflect.ValueOf(&p).Elem(), arguments, false)
		visit(reflect.ValueOf(&u).Elem(), results, true)
		visit(reflect.ValueOf(&sites).Elem(), results, true)
		if print.Format(p) != text {
			t.Fatalf("%q has become %q", text, print.Format(p))
		}
		if got := listing(t, p); !slices.Equal(got, want) {
			t.Fatalf("the code of %q is %q, and then %q", text, want, got)
		}
	}
}

func FuzzLower(f *testing.F) { // P6.1 to P6.4
	f.Add("var x; mutex a[2]; func f(n, mutex m) { if (n) { lock m; var y = x; } else { n = 1; } f(-n, mutex a[n]); } func main() { }")
	f.Add("mutex a; rmutex b; func main() { while 1 { go main(); return; } unlock b; main(1); }")
	f.Fuzz(func(t *testing.T, src string) {
		p, _, errno := parse.Program([]byte(src))
		if errno == api.OK {
			compare(t, p)
		}
	})
}
