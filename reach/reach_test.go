package reach_test

import (
	"slices"
	"strconv"
	"strings"
	"testing"

	"lockorder/api"
	"lockorder/instance"
	"lockorder/lower"
	"lockorder/parse"
	"lockorder/reach"
)

const least, most = -1 << 63, 1<<63 - 1

// subject is a program, with its code and its closure.
type subject struct {
	text    string
	program api.Program
	unit    api.Unit
	closure api.Closure
}

// read returns the subject with this text, and false if it is no program with a closure.
func read(text string) (subject, bool) {
	p, _, errno := parse.Program([]byte(text))
	if errno != api.OK {
		return subject{}, false
	}
	u, _, _, errno := lower.Lower(p)
	if errno != api.OK {
		return subject{}, false
	}
	c, errno := instance.Close(u)
	return subject{text, p, u, c}, errno == api.OK
}

// mustRead returns the subject with a text that is right.
func mustRead(t *testing.T, text string) subject {
	t.Helper()
	s, is := read(text)
	if !is {
		t.Fatalf("%.200q is no program with a closure", text)
	}
	return s
}

// name returns the instance n as text, such as f(a,b).
func (s subject) name(n int) string {
	i := s.closure.Instances[n]
	var l []string
	for _, m := range i.Locks {
		l = append(l, s.unit.Mutexes[m].Name)
	}
	return s.unit.Procs[i.Proc].Name + "(" + strings.Join(l, ",") + ")"
}

// named returns the number of the instance with this text.
func (s subject) named(t *testing.T, text string) int {
	t.Helper()
	for n := range s.closure.Instances {
		if s.name(n) == text {
			return n
		}
	}
	t.Fatalf("%s: there is no instance %s", s.text, text)
	return -1
}

// limit returns the greatest depth of the mutex m.
func (s subject) limit(m int) int {
	if x := s.unit.Mutexes[m]; x.Size == 0 && !x.Reentrant {
		return 1
	}
	return 8
}

func (s subject) entries(m int) []int  { return reach.Entries(s.unit, s.closure, m) }
func (s subject) before(m int) [][]int { return reach.Before(s.unit, s.closure, m) }
func (s subject) exits(m int) []int    { return reach.Exits(s.unit, s.closure, m) }
func (s subject) may(m, i, pc int) bool {
	return reach.May(s.unit, s.closure, m, i, pc)
}
func (s subject) must(m, i, pc int) bool {
	return reach.Must(s.unit, s.closure, m, i, pc)
}

// The sets of depths that occur most often. A set without depths is 0.
const (
	zero, one, both = 1, 2, 3
	all             = 511 // the depths from 0 to MaxDepth
)

// expected is what is expected of an instance for a mutex.
type expected struct {
	instance    string
	mutex       int
	before      []int // beginning with the entry, unless the code has a loop that leads to its beginning
	entry, exit int
}

// check tests all functions for an instance.
func (s subject) check(t *testing.T, x expected) {
	t.Helper()
	i := s.named(t, x.instance)
	entries, before, exits := s.entries(x.mutex), s.before(x.mutex), s.exits(x.mutex)
	n := len(s.closure.Instances)
	if len(entries) != n || len(before) != n || len(exits) != n {
		t.Fatalf("%s: %v, %v, %v for %d instances", s.text, entries, before, exits, n)
	}
	if entries[i] != x.entry || exits[i] != x.exit {
		t.Errorf("%s: %+v, but it begins with %d and ends with %d", s.text, x, entries[i], exits[i])
	}
	if !slices.Equal(before[i], x.before) {
		t.Errorf("%s: %+v, but Before = %v", s.text, x, before[i])
	}
	for pc, set := range x.before {
		if may := s.may(x.mutex, i, pc); may != (set > 1) {
			t.Errorf("%s: %+v, but May(%d) = %v", s.text, x, pc, may)
		}
		if must := s.must(x.mutex, i, pc); must != (set > 1 && set%2 == 0) {
			t.Errorf("%s: %+v, but Must(%d) = %v", s.text, x, pc, must)
		}
	}
}

func TestExample(t *testing.T) { // the example of the chapter
	s := mustRead(t, "mutex a; func main() { lock a; unlock a; }")
	s.check(t, expected{"main()", 0, []int{zero, one, zero}, zero, zero})
}

func TestMain(t *testing.T) { // P17.1, P17.2: one instance
	for _, c := range []struct {
		body   string
		before []int // of a, whose cap is 1
		exit   int
		other  []int // of b, whose cap is MaxDepth
		last   int
	}{
		{"", []int{zero}, zero, []int{zero}, zero},
		{"lock a; lock b; unlock b;", []int{zero, one, one, one}, one, []int{zero, zero, one, zero}, zero},
		{"lock b; lock b; unlock a;", []int{zero, zero, zero, 0}, 0, []int{zero, one, 4, 4}, 4},
		{"lock a; lock b; lock a; unlock b;", []int{zero, one, one, 0, 0}, 0, []int{zero, zero, one, one, zero}, zero},
		{"lock a; return; lock b;", []int{zero, one, 0, 0}, one, []int{zero, zero, 0, 0}, zero},
		{"if 0 { lock a; lock b; } lock b;", []int{zero, zero, one, both, both}, both, []int{zero, zero, zero, both, 6}, 6},
		{"if 0 { lock a; } else { lock b; return; }", []int{zero, zero, one, zero, zero, one}, both, []int{zero, zero, zero, zero, one, zero}, both},
		// A path ends at an event, and what follows is only reached by others.
		{"if 1 { lock a; } unlock a; lock b;", []int{zero, zero, both, zero, zero}, zero, []int{zero, zero, zero, zero, one}, one},
		{"while 0 { lock a; lock b; }", []int{both, both, one, one, both}, both, []int{all, all, all, all - zero, all}, all},
		{"while 0 { unlock b; lock a; }", []int{both, both, both, one, both}, both, []int{zero, zero, 0, 0, zero}, zero},
		{"while 1 { lock b; lock b; }", []int{zero, zero, zero, zero, zero}, zero, []int{341, 341, 170, 340, 341}, 341},
		// The instruction 0 may have more than the entry.
		{"while 1 { lock b; } while 1 { unlock b; }", []int{zero, zero, zero, zero, zero, zero, zero}, zero, []int{all, all, all - zero, all, all, 255, all}, all},
	} {
		s := mustRead(t, "mutex a; rmutex b; func main() { "+c.body+" }")
		s.check(t, expected{"main()", 0, c.before, zero, c.exit})
		s.check(t, expected{"main()", 1, c.other, zero, c.last})
	}
}

func TestCalls(t *testing.T) { // P17.1, P17.2: what is called begins with the depths before the calls
	for _, c := range []struct {
		main, f       string
		entry, exit   int   // of f for a
		before, inner []int // of main and of f for a
		end           int   // of main for a
	}{
		{"f();", "lock a;", zero, one, []int{zero, one}, []int{zero, one}, one},
		{"lock a; f();", "unlock a;", one, zero, []int{zero, one, zero}, []int{one, zero}, zero},
		{"lock a; f();", "lock a;", one, 0, []int{zero, one, 0}, []int{one, 0}, 0},
		// Each call returns with the depths that follow on those before it, and with no others.
		{"f(); lock a; f();", "", both, both, []int{zero, zero, one, one}, []int{both}, one},
		{"f(); f();", "if 1 { unlock a; } else { lock a; }", both, both, []int{zero, one, zero}, []int{both, both, zero, both, both}, zero},
		{"f(); f();", "lock a;", both, one, []int{zero, one, 0}, []int{both, one}, 0},
		{"if 1 { lock a; } f(); unlock a;", "", both, both, []int{zero, zero, both, both, zero}, []int{both}, zero},
		// Only the depths before the call count, not those after it.
		{"lock a; f(); unlock a;", "", one, one, []int{zero, one, one, zero}, []int{one}, zero},
		// What is called by no path is not reached.
		{"unlock a; f();", "lock a;", 0, 0, []int{zero, 0, 0}, []int{0, 0}, 0},
		{"return; f();", "lock a;", 0, 0, []int{zero, 0, 0}, []int{0, 0}, zero},
		{"lock a; if 1 { lock a; f(); }", "unlock a;", 0, 0, []int{zero, one, one, 0, one}, []int{0, 0}, one},
		// What does not return is reached, but nothing after it.
		{"lock a; f(); unlock a;", "f();", one, 0, []int{zero, one, 0, 0}, []int{one, 0}, 0},
		{"f(); lock a;", "lock a; f(); unlock a;", both, 0, []int{zero, 0, 0}, []int{both, one, 0, 0}, 0},
		{"f();", "main();", zero, 0, []int{zero, 0}, []int{zero, 0}, 0},
		// Recursion.
		{"f();", "if 1 { lock a; f(); unlock a; }", both, both, []int{zero, zero}, []int{both, both, one, one, both}, zero},
		{"lock a; f();", "if 1 { unlock a; f(); }", both, both, []int{zero, one, both}, []int{both, both, zero, both}, both},
		{"f(); unlock a;", "if 1 { f(); lock a; }", zero, both, []int{zero, both, zero}, []int{zero, zero, both, both}, zero},
	} {
		s := mustRead(t, "mutex a; mutex b; func main() { "+c.main+" } func f() { "+c.f+" }")
		s.check(t, expected{"main()", 0, c.before, zero, c.end})
		s.check(t, expected{"f()", 0, c.inner, c.entry, c.exit})
	}
}

func TestMainIsCalled(t *testing.T) { // P17.1: the entry of a root may have more than 0
	s := mustRead(t, "rmutex a; func main() { if 1 { lock a; main(); unlock a; } }")
	s.check(t, expected{"main()", 0, []int{all, all, all - zero, all - zero, all}, all, all})
}

func TestRoots(t *testing.T) { // P17.1: a thread holds nothing at its beginning, whatever the one that starts it holds
	for _, c := range []struct {
		main         string
		f, g         string
		entryF, endF int
		entryG, endG int
	}{
		{"lock a; go f();", "lock a;", "", zero, one, -1, -1},
		{"lock a; f();", "go g();", "lock a;", one, one, zero, one},
		{"lock a; f(); go f();", "", "", both, both, -1, -1},
		{"lock a; go f();", "f();", "", zero, 0, -1, -1},
		{"go f();", "lock a; if 1 { f(); }", "", both, one, -1, -1},
		{"go f();", "lock a; g();", "unlock a;", zero, zero, one, zero},
		// The instruction that starts it may not be reached.
		{"unlock a; go f();", "g();", "lock a;", zero, one, zero, one},
		{"return; go f();", "lock a; g();", "", zero, one, one, one},
		{"unlock a; f();", "lock a; go g();", "lock a;", 0, 0, zero, one},
		// What is started, and what is called with the same instruction after it.
		{"go f(); lock a; f();", "g();", "unlock a;", both, zero, both, zero},
	} {
		s := mustRead(t, "mutex a; func main() { "+c.main+" } func f() { "+c.f+" } func g() { "+c.g+" }")
		entries, exits := s.entries(0), s.exits(0)
		f := s.named(t, "f()")
		if entries[0] != zero || entries[f] != c.entryF || exits[f] != c.endF {
			t.Errorf("%s: Entries = %v, Exits = %v; want %+v", s.text, entries, exits, c)
		}
		if c.entryG < 0 {
			continue
		}
		if g := s.named(t, "g()"); entries[g] != c.entryG || exits[g] != c.endG {
			t.Errorf("%s: Entries = %v, Exits = %v; want %+v", s.text, entries, exits, c)
		}
	}
}

func TestInstances(t *testing.T) { // P17.1: the mutex is the one that a parameter stands for in the instance
	s := mustRead(t, "mutex a; mutex b; func f(mutex m, mutex k) { lock m; g(mutex k); unlock m; } func g(mutex m) { lock m; unlock m; } func main() { f(mutex a, mutex b); f(mutex b, mutex a); f(mutex a, mutex a); }")
	for _, x := range []expected{
		{"main()", 0, []int{zero, zero, zero, 0}, zero, 0},
		{"main()", 1, []int{zero, zero, zero, zero}, zero, zero},
		{"f(a,b)", 0, []int{zero, one, one, zero}, zero, zero},
		{"f(a,b)", 1, []int{zero, zero, zero, zero}, zero, zero},
		{"f(b,a)", 0, []int{zero, zero, zero, zero}, zero, zero},
		{"f(b,a)", 1, []int{zero, one, one, zero}, zero, zero},
		{"f(a,a)", 0, []int{zero, one, 0, 0}, zero, 0},
		{"f(a,a)", 1, []int{zero, zero, zero, zero}, zero, zero},
		{"g(a)", 0, []int{both, one, zero}, both, zero}, // once with a, by which the path ends
		{"g(a)", 1, []int{both, both, both}, both, both},
		{"g(b)", 0, []int{one, one, one}, one, one},
		{"g(b)", 1, []int{zero, one, zero}, zero, zero},
	} {
		s.check(t, x)
	}
}

func TestArray(t *testing.T) { // P17.1: the depth of an array is the sum over its elements
	s := mustRead(t, "mutex c[2]; func main() { lock c[0]; lock c[0]; f(mutex c[1]); unlock c[5]; } func f(mutex m) { lock m; lock c[1]; go f(mutex c[0]); }")
	s.check(t, expected{"main()", 0, []int{1, 2, 4, 16, 8}, zero, 8})
	s.check(t, expected{"f(c)", 0, []int{5, 10, 20, 20}, 5, 20})
}

func TestCap(t *testing.T) { // P17.1: a path ends at a lock at the cap
	for n := range 10 {
		body := strings.Repeat("lock r; ", n)
		want := []int{zero}
		for d := 1; d <= n; d++ {
			want = append(want, 1<<d&all)
		}
		s := mustRead(t, "rmutex r; func f() { } func main() { "+body+" f(); }")
		last := want[n]
		s.check(t, expected{"main()", 0, append(want, last), zero, last})
		s.check(t, expected{"f()", 0, []int{last}, last, last})
	}
}

// ring returns a program of as many functions as there may be, each of which calls the one before it, and the first one the last one, with a lock.
func ring() string {
	var b strings.Builder
	b.WriteString("rmutex r; func main() { f0(); f1(); ")
	const last = api.MaxFuncs - 2
	for n := range last - 1 {
		b.WriteString("if 0 { f" + strconv.Itoa(n+2) + "(); } ")
	}
	b.WriteString("} func f0() { if 1 { lock r; f" + strconv.Itoa(last) + "(); unlock r; } } ")
	for n := range last {
		b.WriteString("func f" + strconv.Itoa(n+1) + "() { f" + strconv.Itoa(n) + "(); } ")
	}
	return b.String()
}

func TestRing(t *testing.T) { // P17.1: depths that go round and round
	s := mustRead(t, ring())
	if len(s.closure.Instances) != 16 {
		t.Fatalf("%d instances", len(s.closure.Instances))
	}
	s.check(t, expected{"f0()", 0, []int{all, all, all - zero, all - zero, all}, all, all})
	for n := 1; n < api.MaxFuncs-1; n++ {
		s.check(t, expected{"f" + strconv.Itoa(n) + "()", 0, []int{all, all}, all, all})
	}
}

func TestUntouched(t *testing.T) { // P17.1: a mutex that no instruction names
	s := mustRead(t, "mutex a; rmutex b; func main() { if 1 { main(); } while 1 { f(); } } func f() { f(); go g(); } func g() { }")
	for m := range 2 {
		s.check(t, expected{"main()", m, []int{zero, zero, zero, zero, 0, zero}, zero, zero})
		s.check(t, expected{"f()", m, []int{zero, 0, 0}, zero, 0})
		s.check(t, expected{"g()", m, []int{zero}, zero, zero})
	}
}

func TestMayMust(t *testing.T) { // P17.2: a depth above 0 is one of any kind; no depth at all is not enough for Must
	for _, c := range []struct {
		body      string // what comes before the last instruction of main
		may, must bool
	}{
		{"", false, false},
		{"lock r;", true, true},
		{"lock r; lock r;", true, true},
		{"if 1 { lock r; }", true, false},
		{"if 1 { lock r; lock r; lock r; lock r; lock r; lock r; lock r; lock r; }", true, false},
		{"lock r; lock r; lock r; lock r; lock r; lock r; lock r; lock r;", true, true},
		{"lock r; while 1 { lock r; }", true, true},
		{"while 1 { lock r; }", true, false},
		{"while 1 { lock r; } lock r;", true, true},
		{"while 1 { lock r; } unlock r;", true, false},
		{"while 1 { lock r; } unlock r; lock r;", true, true},
		{"unlock r;", false, false},
		{"unlock r; lock r;", false, false},
		{"lock r; main();", false, false},
		{"lock r; return;", false, false},
	} {
		s := mustRead(t, "rmutex r; func main() { "+c.body+" }")
		pc := len(s.closure.Calls[0]) - 1
		if may, must := s.may(0, 0, pc), s.must(0, 0, pc); may != c.may || must != c.must {
			t.Errorf("%s: May = %v, Must = %v", c.body, may, must)
		}
	}
}

func TestNoInstruction(t *testing.T) { // P17.2, R1: before what is no instruction nothing is held
	s := mustRead(t, "mutex a; func f() { lock a; } func main() { lock a; f(); }")
	numbers := []int{least, -2, -1, 0, 1, 2, 3, 4, 1 << 40, most}
	for _, m := range numbers {
		for _, i := range numbers {
			for _, pc := range numbers {
				want := m == 0 && (i == 0 && pc == 1 || i == 1 && pc == 0)
				if may, must := s.may(m, i, pc), s.must(m, i, pc); may != want || must != want {
					t.Errorf("May(%d, %d, %d) = %v, Must = %v", m, i, pc, may, must)
				}
			}
		}
	}
}
