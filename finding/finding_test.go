package finding_test

import (
	"fmt"
	"slices"
	"strings"
	"testing"

	"lockorder/api"
	"lockorder/finding"
	"lockorder/instance"
	"lockorder/lower"
	"lockorder/parse"
)

const least, most = -1 << 63, 1<<63 - 1

// subject is a program as code, with its closure.
type subject struct {
	source  string
	unit    api.Unit
	closure api.Closure
}

// read returns the subject with this source, and false if it is no program with a closure.
func read(source string) (subject, bool) {
	p, _, errno := parse.Program([]byte(source))
	if errno != api.OK {
		return subject{}, false
	}
	u, _, _, errno := lower.Lower(p)
	if errno != api.OK {
		return subject{}, false
	}
	c, errno := instance.Close(u)
	return subject{source, u, c}, errno == api.OK
}

// mustRead returns the subject with a source that is right.
func mustRead(t *testing.T, source string) subject {
	t.Helper()
	s, is := read(source)
	if !is {
		t.Fatalf("%.200q is no program with a closure", source)
	}
	return s
}

// declared are the mutexes of most programs here. The name of each is one letter.
const declared = "mutex a; mutex b; rmutex r; mutex c[3]; mutex d[1]; mutex g; rmutex h; var x; "

// threads returns the subject whose threads have these bodies; the first one is that of main, which starts the other ones at its end.
func threads(t *testing.T, bodies ...string) subject {
	t.Helper()
	starts, rest := "", ""
	for n, body := range bodies[1:] {
		starts += fmt.Sprintf(" go t%d();", n)
		rest += fmt.Sprintf(" func t%d() { %s }", n, body)
	}
	return mustRead(t, declared+"func main() { "+bodies[0]+starts+" }"+rest)
}

// names returns the names of mutexes.
func (s subject) names(numbers []int) []string {
	var l []string
	for _, m := range numbers {
		l = append(l, s.unit.Mutexes[m].Name)
	}
	return l
}

// instanceName returns the name of an instance, such as f(a,b), or main for one without mutexes.
func (s subject) instanceName(number int) string {
	i := s.closure.Instances[number]
	name := s.unit.Procs[i.Proc].Name
	if len(i.Locks) > 0 {
		name += "(" + strings.Join(s.names(i.Locks), ",") + ")"
	}
	return name
}

// text returns a finding as text, such as "leak main a", "self f(a).3 a" or "cycle a b". Fields that should be 0 are shown if they are not.
func (s subject) text(f api.Finding) string {
	rest := f
	rest.Kind = 0
	text := []string{"", "leak", "unheld", "self", "over", "cycle"}[f.Kind]
	if f.Kind == api.FindCycle {
		text += " " + strings.Join(s.names(f.Locks), " ")
		rest.Locks = nil
	} else {
		text += " " + s.instanceName(f.Instance)
		rest.Instance = 0
		if f.Kind != api.FindLeak {
			text += fmt.Sprintf(".%d", f.PC)
			rest.PC = 0
		} else if f.PC == -1 {
			rest.PC = 0
		}
		text += " " + s.unit.Mutexes[f.Lock].Name
		rest.Lock = 0
	}
	if rest.Kind != 0 || rest.Instance != 0 || rest.PC != 0 || rest.Lock != 0 || len(rest.Locks) > 0 {
		text += fmt.Sprint(" ", rest)
	}
	return text
}

// texts returns findings as one text.
func (s subject) texts(l []api.Finding) string {
	var all []string
	for _, f := range l {
		all = append(all, s.text(f))
	}
	return strings.Join(all, ", ")
}

// part is one of the functions that return findings.
type part func(u api.Unit, c api.Closure) []api.Finding

// of returns the findings that a function finds in a program, as text.
func (p part) of(s subject) string { return s.texts(p(s.unit, s.closure)) }

func TestExample(t *testing.T) { // that of the chapter
	s := mustRead(t, "mutex a; func main() { lock a; }")
	l := finding.All(s.unit, s.closure)
	if len(l) != 1 || l[0].Kind != api.FindLeak || l[0].Instance != 0 || l[0].PC != -1 || l[0].Lock != 0 || len(l[0].Locks) > 0 {
		t.Errorf("%s: %v", s.source, l)
	}
}

// findingCase is a program, as the bodies of its threads, and what is found in it.
type findingCase struct {
	bodies []string
	want   string
}

func (p part) test(t *testing.T, cases []findingCase) {
	t.Helper()
	for _, c := range cases {
		s := threads(t, c.bodies...)
		if got := p.of(s); got != c.want {
			t.Errorf("%s: found are %q; want %q", s.source, got, c.want)
		}
	}
}

// times returns a text that is repeated.
func times(n int, text string) string { return strings.Repeat(text+" ", n) }

func TestLeaks(t *testing.T) { // P23.1
	part(finding.Leaks).test(t, []findingCase{
		{[]string{""}, ""},
		{[]string{"lock a;"}, "leak main a"},
		{[]string{"lock a; unlock a;"}, ""},
		{[]string{"lock r;"}, "leak main r"},
		{[]string{"lock r; lock r; unlock r;"}, "leak main r"},
		{[]string{"lock r; lock r; unlock r; unlock r;"}, ""},
		{[]string{times(8, "lock h;")}, "leak main h"},
		{[]string{"lock c[0];"}, "leak main c"},
		{[]string{"lock c[0]; lock c[1]; unlock c[1];"}, "leak main c"},
		{[]string{"lock d[0]; unlock d[0];"}, ""},
		// The elements of an array are not distinguished.
		{[]string{"lock c[0]; unlock c[1];"}, ""},
		// On one path is enough, and each way to the end counts.
		{[]string{"if x { lock a; }"}, "leak main a"},
		{[]string{"lock a; if x { unlock a; }"}, "leak main a"},
		{[]string{"lock a; if x { return; } unlock a;"}, "leak main a"},
		{[]string{"lock a; if x { unlock a; return; } unlock a;"}, ""},
		{[]string{"while x { lock r; }"}, "leak main r"},
		{[]string{"lock a; while x { unlock a; lock a; } unlock a;"}, ""},
		// A path ends at an event, but only the paths of this mutex do.
		{[]string{"lock a; lock a;"}, ""},
		{[]string{"unlock a; lock a;"}, ""},
		{[]string{times(9, "lock h;")}, ""},
		{[]string{"lock a; unlock b;"}, "leak main a"},
		{[]string{"lock b; lock a; lock a;"}, "leak main b"},
		{[]string{"lock a; if x { lock a; }"}, "leak main a"},
		{[]string{"lock a; return; unlock a;"}, "leak main a"},
		// All of them, by the roots, then by the mutexes.
		{[]string{"lock b; lock a; lock h; lock d[0];"}, "leak main a, leak main b, leak main d, leak main h"},
		{[]string{"lock h; lock a;", "lock b; lock a;", "", "lock g; lock c[0];"}, "leak main a, leak main h, leak t0 a, leak t0 b, leak t2 c, leak t2 g"},
		{[]string{"", "lock a;"}, "leak t0 a"},
		// A thread does not begin with what the one that starts it holds.
		{[]string{"lock a; go t0(); unlock a;", "x = 1;"}, ""},
	})
}

func TestLeaksOfInstances(t *testing.T) { // P23.1: calls, starts and parameters
	for _, c := range []struct{ code, want string }{
		{"func main() { f(mutex a); } func f(mutex m) { lock m; }", "leak main a"},
		{"func main() { f(mutex a); unlock a; } func f(mutex m) { lock m; }", ""},
		{"func main() { f(mutex a); unlock b; } func f(mutex m) { lock m; }", "leak main a"},
		// Only an instance in which a thread begins can be left by one.
		{"func main() { go f(mutex b); f(mutex a); unlock a; } func f(mutex m) { lock m; }", "leak f(b) b"},
		{"func main() { go f(mutex b); go f(mutex a); go f(mutex c[1]); } func f(mutex m) { lock m; }", "leak f(b) b, leak f(a) a, leak f(c) c"},
		{"func main() { go f(mutex b, mutex a); go f(mutex a, mutex b); go f(mutex a, mutex a); } func f(mutex m, mutex k) { lock m; lock k; unlock m; }", "leak f(b,a) a, leak f(a,b) b"},
		{"func main() { go f(mutex r, mutex r); } func f(mutex m, mutex k) { lock m; lock k; unlock m; }", "leak f(r,r) r"},
		// It is what follows on the depth 0, not on what is held where the root is called.
		{"func main() { lock a; f(); unlock a; go f(); } func f() { x = 1; }", ""},
		{"func main() { lock a; f(); go f(); } func f() { unlock a; lock a; }", "leak main a"},
		{"func main() { f(); unlock a; go f(); } func f() { lock a; }", "leak f a"},
		{"func main() { lock a; f(); go f(); } func f() { unlock a; }", ""},
		// A root is one even if the instruction that starts it is not reached.
		{"func main() { return; go f(); } func f() { lock a; }", "leak f a"},
		{"func main() { unlock a; go f(); } func f() { lock a; }", "leak f a"},
		{"func main() { f(); } func f() { go k(); } func k() { lock a; lock r; }", "leak k a, leak k r"},
		// Recursion.
		{"func main() { lock a; main(); }", ""},
		{"func main() { lock a; if x { main(); } }", "leak main a"},
		{"func main() { lock r; if x { main(); } unlock r; }", ""},
		{"func main() { lock r; if x { main(); } }", "leak main r"},
		{"func main() { go main(); lock r; if x { main(); unlock r; } }", "leak main r"},
		{"func main() { f(mutex a, mutex b); } func f(mutex m, mutex k) { if x { f(mutex k, mutex m); } else { lock m; } }", "leak main a, leak main b"},
	} {
		s := mustRead(t, declared+c.code)
		if got := part(finding.Leaks).of(s); got != c.want {
			t.Errorf("%s: found are %q; want %q", s.source, got, c.want)
		}
	}
}

func TestSites(t *testing.T) { // P23.2
	part(finding.Sites).test(t, []findingCase{
		{[]string{""}, ""},
		{[]string{"lock a; lock b; lock r; lock c[0]; lock d[0]; unlock d[0]; unlock c[0]; unlock r; unlock b; unlock a;"}, ""},
		// An unlock of what is not held.
		{[]string{"unlock a;"}, "unheld main.0 a"},
		{[]string{"unlock r;"}, "unheld main.0 r"},
		{[]string{"unlock c[2];"}, "unheld main.0 c"},
		{[]string{"lock b; unlock a;"}, "unheld main.1 a"},
		{[]string{"lock a; unlock a; unlock a;"}, "unheld main.2 a"},
		{[]string{"lock r; lock r; unlock r; unlock r; unlock r;"}, "unheld main.4 r"},
		{[]string{"lock c[0]; unlock c[1]; unlock c[0];"}, "unheld main.2 c"},
		{[]string{"if x { lock a; } unlock a;"}, "unheld main.2 a"},
		{[]string{"lock h; while x { unlock h; }"}, "unheld main.2 h"},
		// A lock of a plain scalar that is held.
		{[]string{"lock a; lock a;"}, "self main.1 a"},
		{[]string{"lock a; unlock a; lock a;"}, ""},
		{[]string{"lock a; lock b; lock a;"}, "self main.2 a"},
		{[]string{"if x { lock a; } lock a;"}, "self main.2 a"},
		{[]string{"while x { lock g; }"}, "self main.1 g"},
		{[]string{"while x { lock g; unlock g; }"}, ""},
		// A lock of any other mutex at its cap.
		{[]string{times(8, "lock r;")}, ""},
		{[]string{times(9, "lock r;")}, "over main.8 r"},
		{[]string{times(8, "lock c[1];")}, ""},
		{[]string{times(9, "lock c[1];")}, "over main.8 c"},
		{[]string{times(3, "lock c[0]; lock c[1]; lock c[2];")}, "over main.8 c"},
		{[]string{times(9, "lock d[0];")}, "over main.8 d"},
		{[]string{times(8, "lock h;") + "unlock h; lock h;"}, ""},
		{[]string{"while x { lock r; }"}, "over main.1 r"},
		{[]string{"while x { lock r; lock r; }"}, "over main.1 r"},
		{[]string{"lock r; while x { lock r; lock r; }"}, "over main.3 r"},
		{[]string{"while x { lock r; if x { lock r; } }"}, "over main.1 r, over main.3 r"},
		{[]string{"lock r; while x { lock r; unlock r; }"}, ""},
		// A path ends there, so there is nothing after it; but the paths of other mutexes go on.
		{[]string{"unlock a; unlock a; lock a;"}, "unheld main.0 a"},
		{[]string{"lock a; lock a; lock a; unlock a;"}, "self main.1 a"},
		{[]string{times(11, "lock r;")}, "over main.8 r"},
		{[]string{"unlock a; unlock b; unlock r;"}, "unheld main.0 a, unheld main.1 b, unheld main.2 r"},
		{[]string{"if x { unlock a; } unlock a;"}, "unheld main.1 a, unheld main.2 a"},
		{[]string{"lock a; if x { lock a; } lock a;"}, "self main.2 a, self main.3 a"},
		// What is not reached.
		{[]string{"return; unlock a; lock b; lock b;"}, ""},
		{[]string{"lock a; if x { return; } unlock a; return; unlock a;"}, ""},
		{[]string{"unlock a; if x { unlock a; }"}, "unheld main.0 a"},
		// Other instructions are no matter.
		{[]string{"x = 1; if x { x = 2; } while x { x = 0; }", "x = 3;"}, ""},
	})
}

func TestSitesInOrder(t *testing.T) { // P23.2, P23.4: by kinds, then by instances, then by instructions
	part(finding.Sites).test(t, []findingCase{
		{[]string{"lock a; lock a; unlock b;"}, "unheld main.2 b, self main.1 a"},
		{[]string{"while x { lock r; } lock a; lock a; unlock b;"}, "unheld main.5 b, self main.4 a, over main.1 r"},
		{[]string{"unlock h; unlock a; unlock g; unlock b;"}, "unheld main.0 h, unheld main.1 a, unheld main.2 g, unheld main.3 b"},
		{[]string{"lock b; lock b;", "unlock h; lock a; lock a;", "unlock a; while x { lock c[0]; }"}, "unheld t0.0 h, unheld t1.0 a, self main.1 b, self t0.2 a, over t1.2 c"},
		{[]string{"unlock b; unlock a;", "", "unlock b; unlock a;"}, "unheld main.0 b, unheld main.1 a, unheld t1.0 b, unheld t1.1 a"},
	})
}

func TestSitesOfInstances(t *testing.T) { // P23.2: calls, starts and parameters
	for _, c := range []struct{ code, want string }{
		{"func main() { f(mutex b); f(mutex a); } func f(mutex m) { lock m; unlock m; unlock m; }", "unheld f(b).2 b, unheld f(a).2 a"},
		{"func main() { f(mutex b, mutex a); f(mutex a, mutex a); f(mutex a, mutex r); f(mutex r, mutex r); } func f(mutex m, mutex k) { lock m; lock k; unlock k; unlock m; }", "self f(a,a).1 a"},
		{"func main() { f(mutex b, mutex a); f(mutex c[0], mutex c[1]); } func f(mutex m, mutex k) { lock m; unlock k; }", "unheld f(b,a).1 a"},
		// What is held at the call counts.
		{"func main() { lock a; f(mutex a); } func f(mutex m) { unlock m; }", ""},
		{"func main() { lock a; f(mutex a); f(mutex a); } func f(mutex m) { unlock m; }", "unheld f(a).0 a"},
		{"func main() { lock a; f(mutex a); f(mutex b); } func f(mutex m) { lock m; unlock m; }", "self f(a).0 a"},
		{"func main() { lock r; f(mutex r); } func f(mutex m) { " + times(8, "lock m;") + "}", "over f(r).7 r"},
		// What is held after it, too.
		{"func main() { f(mutex a); unlock a; unlock a; } func f(mutex m) { lock m; }", "unheld main.2 a"},
		{"func main() { f(mutex a); f(mutex a); } func f(mutex m) { lock m; }", "self f(a).0 a"},
		{"func main() { f(mutex a); lock a; } func f(mutex m) { if x { lock m; } }", "self main.1 a"},
		// A thread begins without it.
		{"func main() { lock a; go f(); unlock a; } func f() { lock a; unlock a; }", ""},
		{"func main() { lock a; go f(); unlock a; } func f() { unlock a; }", "unheld f.0 a"},
		{"func main() { lock a; f(); go f(); } func f() { unlock a; }", "unheld f.0 a"},
		// Recursion.
		{"func main() { lock a; main(); }", "self main.0 a"},
		{"func main() { lock r; main(); }", "over main.0 r"},
		{"func main() { lock r; if x { main(); } unlock r; }", "over main.0 r"},
		{"func main() { lock r; if x { main(); } unlock r; unlock r; }", "unheld main.3 r, unheld main.4 r, over main.0 r"},
		{"func main() { main(); unlock a; }", ""},
		{"func main() { f(mutex a, mutex b); } func f(mutex m, mutex k) { lock m; f(mutex k, mutex m); }", "self f(a,b).0 a, self f(b,a).0 b"},
	} {
		s := mustRead(t, declared+c.code)
		if got := part(finding.Sites).of(s); got != c.want {
			t.Errorf("%s: found are %q; want %q", s.source, got, c.want)
		}
	}
}

func TestCycles(t *testing.T) { // P23.3
	part(finding.Cycles).test(t, []findingCase{
		{[]string{""}, ""},
		{[]string{"lock a; lock b;"}, ""},
		{[]string{"lock a; lock b;", "lock b; lock a;"}, "cycle a b"},
		{[]string{"lock b; lock a;", "lock a; lock b;"}, "cycle a b"},
		{[]string{"lock a; lock b; unlock a; lock a;"}, "cycle a b"},
		{[]string{"lock g; lock a; lock b;", "lock g; lock b; lock a;"}, ""},
		{[]string{"lock g; lock a; lock b;", "lock b; lock a;"}, "cycle a b"},
		{[]string{"lock h; lock a; lock b;", "lock h; lock b; lock a;"}, ""},
		{[]string{"lock c[0]; lock c[0];"}, "cycle c"},
		{[]string{"lock g; lock d[0]; lock d[0];"}, "cycle d"},
		{[]string{"lock a; lock a;"}, ""},
		{[]string{"lock r; lock r;"}, ""},
		{[]string{"lock a; lock b;", "lock b; lock r;", "lock r; lock a;"}, "cycle a b r"},
		{[]string{"lock h; lock r;", "lock r; lock h;", "lock g; lock b;", "lock b; lock g;", "lock d[0]; lock a;", "lock a; lock d[0];", "lock c[0]; lock c[1];"}, "cycle a d, cycle b g, cycle r h, cycle c"},
		{[]string{"lock h; lock r;", "lock r; lock h;", "lock g; lock a; lock b;", "lock g; lock b; lock a;"}, "cycle r h"},
	})
}

func TestAll(t *testing.T) { // P23.4
	part(finding.All).test(t, []findingCase{
		{[]string{""}, ""},
		{[]string{"lock a; lock b; unlock b; unlock a;", "lock r; lock r; lock c[x]; unlock c[x]; unlock r; unlock r;"}, ""},
		{[]string{"unlock a;"}, "unheld main.0 a"},
		{[]string{"lock a; unlock a; lock a; lock a;"}, "self main.3 a"},
		{[]string{"lock a; lock b; unlock a; unlock b;", "lock b; lock a; unlock a; unlock b;"}, "cycle a b"},
		{[]string{"while x { lock r; } while x { lock c[0]; }", "lock h; lock a; lock a; unlock b;"}, "leak main r, leak main c, leak t0 h, unheld t0.3 b, self t0.2 a, over main.1 r, over main.4 c, cycle c"},
		{[]string{"lock a; lock b;", "lock b; lock a; unlock a; unlock a;", "unlock c[x];"}, "leak main a, leak main b, leak t0 b, unheld t0.3 a, unheld t1.0 c, cycle a b"},
		{[]string{"lock b; lock a; unlock b; lock b; lock h; lock r; unlock h; lock h; lock c[0]; lock c[1];"}, "leak main a, leak main b, leak main r, leak main c, leak main h, cycle a b, cycle c"},
	})
	// Programs without mutexes, and without instances beside that of main.
	for _, source := range []string{"func main() { }", "mutex a; func main() { }", "func main() { go f(); } func f() { f(); }", "mutex a; func main() { } func f() { lock a; lock a; unlock a; }"} {
		s := mustRead(t, source)
		for _, p := range []part{finding.Leaks, finding.Sites, finding.Cycles, finding.All} {
			if got := p.of(s); got != "" {
				t.Errorf("%s: found are %q", source, got)
			}
		}
	}
}

// inOrder are findings, each of which comes before those after it.
func inOrder() []api.Finding {
	return []api.Finding{
		{Kind: least, Instance: most, PC: most, Lock: most, Locks: []int{most}},
		{Kind: -1, Instance: 9},
		{Instance: -1, PC: 5},
		{},
		{Locks: []int{least}},
		{Locks: []int{-1, 7}},
		{Locks: []int{0}},
		{Locks: []int{0, least}},
		{Locks: []int{0, 0}},
		{Locks: []int{0, 0, 0}},
		{Locks: []int{0, 1}},
		{Locks: []int{0, 1, 0}},
		{Locks: []int{0, 2}},
		{Locks: []int{1}},
		{Locks: []int{1, 0}},
		{Locks: []int{2}},
		{Locks: []int{10}},
		{Locks: []int{most}},
		{Lock: 1},
		{Lock: 2, Locks: []int{5}},
		{Lock: 10},
		{PC: 1, Lock: -1},
		{PC: 1},
		{PC: 9, Locks: []int{1}},
		{PC: 10},
		{Instance: 1, PC: least, Lock: 4},
		{Instance: 1, PC: -1, Lock: 1},
		{Instance: 1, PC: -1, Lock: 2},
		{Instance: 1},
		{Instance: 2, PC: -1},
		{Instance: 10, PC: -1},
		{Instance: most, PC: least, Lock: least},
		{Kind: api.FindLeak, PC: -1},
		{Kind: api.FindLeak, PC: 3},
		{Kind: api.FindUnheld, Lock: 11},
		{Kind: api.FindSelf, Instance: 255},
		{Kind: api.FindOver, PC: 7000},
		{Kind: api.FindCycle, Locks: []int{0, 1}},
		{Kind: api.FindCycle, Locks: []int{0, 1, 5}},
		{Kind: api.FindCycle, Locks: []int{2}},
		{Kind: api.FindCycle, Lock: 1},
		{Kind: 6, Instance: least},
		{Kind: 65536},
		{Kind: most, Instance: least, PC: least, Lock: least},
		{Kind: most, Instance: least, PC: least, Lock: most},
	}
}

func TestLess(t *testing.T) { // P23.4
	for i, a := range inOrder() {
		for k, b := range inOrder() {
			if got := finding.Less(a, b); got != (i < k) {
				t.Errorf("Less(%v, %v) = %t", a, b, got)
			}
		}
	}
	// A list that is nil is an empty one.
	one, two := api.Finding{Kind: 1, Locks: []int{}}, api.Finding{Kind: 1}
	if finding.Less(one, two) || finding.Less(two, one) {
		t.Errorf("Less distinguishes nil from an empty list")
	}
	// What comes behind the lists does not count.
	long := []int{3, 4, 5}
	if one, two := (api.Finding{Locks: long[:1]}), (api.Finding{Locks: long[:1:1]}); finding.Less(one, two) || finding.Less(two, one) {
		t.Errorf("Less looks behind the lists")
	}
}

func TestLongLists(t *testing.T) { // P23.4: lists that differ at their ends
	a := api.Finding{Locks: slices.Repeat([]int{7}, 1000000)}
	b := api.Finding{Locks: append(slices.Clone(a.Locks), least)}
	c := api.Finding{Locks: append(slices.Clone(a.Locks[1:]), 8)}
	for n, l := range [][2]api.Finding{{a, b}, {b, c}, {a, c}} {
		if !finding.Less(l[0], l[1]) || finding.Less(l[1], l[0]) {
			t.Errorf("Less of the pair %d", n)
		}
	}
}
