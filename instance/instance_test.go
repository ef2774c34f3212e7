package instance_test

import (
	"fmt"
	"reflect"
	"slices"
	"strings"
	"testing"

	"lockorder/api"
	"lockorder/instance"
	"lockorder/lower"
	"lockorder/parse"
)

const least, most = -1 << 63, 1<<63 - 1

// mustParse returns the program with a text that is right.
func mustParse(t *testing.T, s string) api.Program {
	t.Helper()
	p, n, errno := parse.Program([]byte(s))
	if errno != api.OK {
		t.Fatalf("Program(%.80q) = %d, %d", s, n, errno)
	}
	return p
}

// mustLower returns the code of a text that is a right program.
func mustLower(t *testing.T, s string) api.Unit {
	t.Helper()
	u, f, n, errno := lower.Lower(mustParse(t, s))
	if errno != api.OK {
		t.Fatalf("Lower(%.80q) = %d, %d, %d", s, f, n, errno)
	}
	return u
}

// mustClose returns the closure of a unit that is not too large.
func mustClose(t *testing.T, u api.Unit) api.Closure {
	t.Helper()
	c, errno := instance.Close(u)
	if errno != api.OK {
		t.Fatalf("Close = %v, %d", c, errno)
	}
	return c
}

// name returns an instance as text, such as f(a, b).
func name(u api.Unit, i api.Instance) string {
	var l []string
	for _, m := range i.Locks {
		l = append(l, u.Mutexes[m].Name)
	}
	return u.Procs[i.Proc].Name + "(" + strings.Join(l, ", ") + ")"
}

// names returns the instances of a closure as text.
func names(u api.Unit, c api.Closure) []string {
	var l []string
	for _, i := range c.Instances {
		l = append(l, name(u, i))
	}
	return l
}

// ring is a program whose instances are found in an order in which neither their procedures nor their mutexes are.
const ring = "mutex a; rmutex b; mutex c[3]; func main() { lock a; g(mutex b); f(1, mutex c[0], 2, mutex a); } func f(n, mutex m, k, mutex l) { if n { f(k, mutex l, n, mutex m); } else { go g(mutex l); } while n { go f(n, mutex m, k, mutex m); } } func g(mutex m) { lock m; h(); unlock m; } func h() { return; go main(); g(mutex c[1]); }"

func TestClose(t *testing.T) { // P13.2
	for _, c := range []struct {
		text      string
		instances []string
		calls     [][]int
		roots     []int
		sites     int
	}{
		{"func main() {}", []string{"main()"}, [][]int{{-1}}, []int{0}, 1},
		// The example of the chapter.
		{"mutex a; mutex b; func main() { f(mutex a); f(mutex b); } func f(mutex m) { lock m; }", []string{"main()", "f(a)", "f(b)"}, [][]int{{1, 2, -1}, {-1, -1}, {-1, -1}}, []int{0}, 7},
		// What is called again is not added again, whether it is called or started.
		{"mutex a; func main() { f(mutex a); f(mutex a); go f(mutex a); main(); } func f(mutex m) { f(mutex m); }", []string{"main()", "f(a)"}, [][]int{{1, 1, 1, 0, -1}, {1, -1}}, []int{0, 1}, 7},
		// Elements of an array count as the array.
		{"mutex c[4]; func main() { f(mutex c[0]); f(mutex c[3]); } func f(mutex m) { lock m; lock c[1]; }", []string{"main()", "f(c)"}, [][]int{{1, 1, -1}, {-1, -1, -1}}, []int{0}, 6},
		// Integers do not matter.
		{"var x; mutex a; func main() { f(1, mutex a, 2); f(x, mutex a, 4 / 0); } func f(n, mutex m, k) { }", []string{"main()", "f(a)"}, [][]int{{1, 1, -1}, {-1}}, []int{0}, 4},
		// The function main need not be the first one.
		{"func f() { g(); } func g() { } func never() { f(); main(); } func main() { g(); go f(); }", []string{"main()", "g()", "f()"}, [][]int{{1, 2, -1}, {-1}, {1, -1}}, []int{0, 2}, 6},
		// Roots are in ascending order, and not in the order in which they are started.
		{"func main() { f(); g(); go h(); } func f() { go g(); go g(); } func g() { go main(); } func h() { go f(); }", []string{"main()", "f()", "g()", "h()"}, [][]int{{1, 2, 3, -1}, {2, 2, -1}, {0, -1}, {1, -1}}, []int{0, 1, 2, 3}, 11},
		// What follows a return, and what no condition leads to, is examined as well.
		{"mutex a; mutex b; func main() { return; f(mutex b); if 0 { f(mutex a); } } func f(mutex m) { while 0 { go f(mutex m); } }", []string{"main()", "f(b)", "f(a)"}, [][]int{{-1, 1, -1, 2, -1}, {-1, 1, -1, -1}, {-1, 2, -1, -1}}, []int{0, 1, 2}, 13},
		// The order of the mutexes counts, and so does how often one is there.
		{"mutex a; mutex b; func main() { f(mutex b, mutex a); } func f(mutex m, mutex k) { f(mutex k, mutex m); f(mutex k, mutex k); }", []string{"main()", "f(b, a)", "f(a, b)", "f(a, a)", "f(b, b)"}, [][]int{{1, -1}, {2, 3, -1}, {1, 4, -1}, {3, 3, -1}, {4, 4, -1}}, []int{0}, 14},
		{ring,
			[]string{"main()", "g(b)", "f(c, a)", "h()", "f(a, c)", "g(a)", "f(c, c)", "g(c)", "f(a, a)"},
			[][]int{{-1, 1, 2, -1}, {-1, 3, -1, -1}, {-1, 4, -1, 5, -1, 6, -1, -1}, {-1, 0, 7, -1}, {-1, 2, -1, 7, -1, 8, -1, -1}, {-1, 3, -1, -1}, {-1, 6, -1, 7, -1, 6, -1, -1}, {-1, 3, -1, -1}, {-1, 8, -1, 5, -1, 8, -1, -1}},
			[]int{0, 5, 6, 7, 8}, 52},
	} {
		u := mustLower(t, c.text)
		got := mustClose(t, u)
		if l := names(u, got); !slices.Equal(l, c.instances) {
			t.Errorf("%s: the instances are %v; want %v", c.text, l, c.instances)
		}
		if !slices.EqualFunc(got.Calls, c.calls, slices.Equal[[]int]) || !slices.Equal(got.Roots, c.roots) {
			t.Errorf("%s: Calls are %v, Roots are %v; want %v, %v", c.text, got.Calls, got.Roots, c.calls, c.roots)
		}
		if n := instance.Sites(u, got); n != c.sites {
			t.Errorf("%s: Sites = %d; want %d", c.text, n, c.sites)
		}
	}
}

func TestMutex(t *testing.T) { // P13.1
	i := api.Instance{Proc: 3, Locks: []int{7, 0, 7, 11}}
	at := []api.Expr{{Op: api.OpNumber, Num: 5}}
	for _, c := range []struct {
		place api.Place
		want  int
	}{
		{api.Place{Param: true}, 7},
		{api.Place{Param: true, Index: 1}, 0},
		{api.Place{Param: true, Index: 2}, 7},
		{api.Place{Param: true, Index: 3}, 11},
		{api.Place{}, 0},
		{api.Place{Index: 1}, 1},
		{api.Place{Index: 3, At: at}, 3},
		{api.Place{Index: 4}, 4},
		{api.Place{Index: 11, At: at}, 11},
	} {
		if n := instance.Mutex(i, c.place); n != c.want {
			t.Errorf("Mutex(%v, %v) = %d; want %d", i, c.place, n, c.want)
		}
	}
	if n := instance.Mutex(api.Instance{}, api.Place{Index: 2}); n != 2 {
		t.Errorf("without Locks, Mutex = %d; want 2", n)
	}
}

func TestCallee(t *testing.T) { // P13.1
	u := mustLower(t, "var x; mutex a; mutex b; mutex c[2]; func f(n, mutex m, mutex k) { f(n, mutex k, mutex m); go g(mutex c[x], mutex m, mutex b); lock m; unlock m; x = 1; if n { g(mutex k, mutex k, mutex c[1 / 0]); } h(); while 1 { } return; } func g(mutex m, mutex k, mutex l) { } func h() { } func main() { f(0, mutex a, mutex c[0]); }")
	want := map[int]string{0: "f(c, a)", 1: "g(c, a, b)", 6: "g(c, c, c)", 7: "h()"}
	i := api.Instance{Proc: 0, Locks: []int{0, 2}}
	pcs := []int{least, -1 << 32, -1, len(u.Procs[0].Code), len(u.Procs[0].Code) + 1, 1 << 32, most}
	for pc := range u.Procs[0].Code {
		pcs = append(pcs, pc)
	}
	for _, pc := range pcs {
		callee, is := instance.Callee(u, i, pc)
		s, has := want[pc]
		if is != has {
			t.Errorf("Callee(%d) = %v, %v; want %q", pc, callee, is, s)
		} else if has && name(u, callee) != s {
			t.Errorf("Callee(%d) = %s; want %s", pc, name(u, callee), s)
		} else if !has && (callee.Proc != 0 || callee.Locks != nil) { // R4
			t.Errorf("Callee(%d) = %v, false", pc, callee)
		}
	}
	if callee, is := instance.Callee(u, api.Instance{Proc: 3}, 0); !is || name(u, callee) != "f(a, c)" {
		t.Errorf("the first instruction of main calls %v, %v", callee, is)
	}
	if callee, is := instance.Callee(u, api.Instance{Proc: 3}, 1); is {
		t.Errorf("the last instruction of main calls %v", callee)
	}
}

func TestFind(t *testing.T) { // P13.3
	u := mustLower(t, ring)
	c := mustClose(t, u)
	for n, i := range c.Instances {
		i.Locks = slices.Clone(i.Locks)
		if got := instance.Find(c, i); got != n {
			t.Errorf("Find(%v) = %d; want %d", i, got, n)
		}
	}
	for _, proc := range []int{0, 3} { // R5
		none, empty := instance.Find(c, api.Instance{Proc: proc}), instance.Find(c, api.Instance{Proc: proc, Locks: []int{}})
		if none != proc || empty != proc {
			t.Errorf("Find(%d) = %d, %d", proc, none, empty)
		}
	}
	others := []api.Instance{
		{Proc: 1}, {Proc: 2}, {Proc: 0, Locks: []int{0}}, {Proc: 3, Locks: []int{0}}, {Proc: 1, Locks: []int{0}}, {Proc: 1, Locks: []int{1, 0}}, {Proc: 1, Locks: []int{1, 1}}, {Proc: 1, Locks: []int{0, 0, 0}}, {Proc: 1, Locks: []int{2, 0, 0}},
		{Proc: 2, Locks: []int{3}}, {Proc: 2, Locks: []int{-1}}, {Proc: 2, Locks: []int{0, 0}}, {Proc: 2, Locks: []int{1 << 32}}, {Proc: 2, Locks: []int{1<<32 + 1}}, {Proc: 2, Locks: []int{least}}, {Proc: 2, Locks: []int{most}},
		{Proc: -1}, {Proc: 4}, {Proc: least}, {Proc: most}, {Proc: 1 << 32}, {Proc: 256}, {Proc: -1, Locks: []int{0}},
	}
	for n := 1; n <= 300; n++ {
		for proc := range 4 {
			others = append(others, api.Instance{Proc: proc, Locks: append([]int{2, 0}, make([]int, n)...)})
			others = append(others, api.Instance{Proc: proc, Locks: make([]int, n+2)})
		}
	}
	for _, i := range others {
		if n := instance.Find(c, i); n != -1 {
			t.Errorf("Find(%v) = %d; want -1", i, n)
		}
	}
	if n := instance.Find(api.Closure{}, api.Instance{}); n != -1 {
		t.Errorf("Find in nothing = %d; want -1", n)
	}
}

func TestFindMany(t *testing.T) { // P13.3: all six mutexes count
	u := mustLower(t, "mutex a; mutex b; func main() { f(mutex a, mutex a, mutex a, mutex a, mutex a, mutex b); } func f(mutex m, mutex n, mutex o, mutex p, mutex q, mutex r) { f(mutex r, mutex m, mutex n, mutex o, mutex p, mutex q); }")
	c := mustClose(t, u)
	want := []string{"main()", "f(a, a, a, a, a, b)", "f(b, a, a, a, a, a)", "f(a, b, a, a, a, a)", "f(a, a, b, a, a, a)", "f(a, a, a, b, a, a)", "f(a, a, a, a, b, a)"}
	if l := names(u, c); !slices.Equal(l, want) {
		t.Errorf("the instances are %v; want %v", l, want)
	}
	for n, i := range c.Instances {
		if got := instance.Find(c, i); got != n {
			t.Errorf("Find(%v) = %d; want %d", i, got, n)
		}
		for _, m := range []int{0, 1} {
			longer := api.Instance{Proc: i.Proc, Locks: append(slices.Clone(i.Locks), m)}
			if got := instance.Find(c, longer); got != -1 {
				t.Errorf("Find(%v) = %d; want -1", longer, got)
			}
		}
	}
	for _, locks := range [][]int{{0, 0, 0, 0, 0, 0}, {1, 0, 0, 0, 0, 1}, {0, 0, 0, 0, 1}, {0, 0, 0, 0, 0}} {
		if n := instance.Find(c, api.Instance{Proc: 1, Locks: locks}); n != -1 {
			t.Errorf("Find(%v) = %d; want -1", locks, n)
		}
	}
}

// manyCalls returns the text of a program in which main calls n instances of p, whose body is given, with three of ten mutexes each.
func manyCalls(n int, body, more string) string {
	var s strings.Builder
	for m := range 10 {
		fmt.Fprintf(&s, "mutex m%d; ", m)
	}
	s.WriteString("func main() { ")
	for k := range n {
		fmt.Fprintf(&s, "p(mutex m%d, mutex m%d, mutex m%d); ", k/100, k/10%10, k%10)
	}
	return s.String() + more + "} func p(mutex x, mutex y, mutex z) { " + body + "}"
}

func TestLimits(t *testing.T) { // P13.2
	returns := func(n int) string { return strings.Repeat("return; ", n) }
	q := " func q(mutex x) { " + returns(300) + "}"
	for _, c := range []struct {
		what             string
		text             string
		instances, sites int // 0 if it is too large
	}{
		{"as many instances as possible", manyCalls(255, "", ""), 256, 256 + 255},
		{"one more", manyCalls(256, "", ""), 0, 0},
		{"one more, which is found last", manyCalls(255, "if 1 { } else { if 0 { p(mutex y, mutex z, mutex m9); } }", ""), 0, 0},
		{"one more by one that has no mutexes", manyCalls(255, "go r();", "") + " func r() { }", 0, 0},
		{"none more", manyCalls(255, "go main();", "p(mutex m0, mutex m0, mutex m0); go p(mutex m0, mutex m0, mutex m1); main(); "), 256, 256 + 3 + 510},
		{"as many instructions as possible", manyCalls(19, returns(419), ""), 20, 8000},
		{"one more in main", manyCalls(19, returns(419), "return; "), 0, 0},
		{"one more in each instance but main", manyCalls(19, returns(420), ""), 0, 0},
		{"one fewer there, and one is called more often", manyCalls(19, returns(418), strings.Repeat("p(mutex m0, mutex m0, mutex m1); ", 19)), 20, 8000},
		{"a procedure with too many, which is found last", manyCalls(19, returns(403)+"q(mutex m0); ", "") + q, 0, 0},
		{"a procedure with fewer, which is found last", manyCalls(19, returns(402)+"q(mutex m0); ", "") + q, 21, 20 + 19*404 + 301},
		{"a procedure that is not called", manyCalls(19, returns(419), "") + q, 20, 8000},
		{"both too many", manyCalls(257, returns(300), ""), 0, 0},
		{"one more by a chain of mutexes", manyCalls(1, "p(mutex y, mutex z, mutex m1); p(mutex z, mutex x, mutex m2); p(mutex y, mutex x, mutex m3); p(mutex z, mutex z, mutex m4); p(mutex x, mutex y, mutex m5); p(mutex y, mutex z, mutex m6); p(mutex x, mutex z, mutex m7);", ""), 0, 0},
	} {
		u := mustLower(t, c.text)
		got, errno := instance.Close(u)
		if c.instances == 0 {
			if errno != api.ErrTooLarge || len(got.Instances)+len(got.Calls)+len(got.Roots) != 0 {
				t.Errorf("%s: Close = %d instances, %d", c.what, len(got.Instances), errno)
			}
			if n := instance.Find(got, api.Instance{Proc: u.Main}); n != -1 || instance.Sites(u, got) != 0 {
				t.Errorf("%s: in an empty closure, Find = %d, Sites = %d", c.what, n, instance.Sites(u, got))
			}
			continue
		}
		if n := instance.Sites(u, got); errno != api.OK || len(got.Instances) != c.instances || n != c.sites {
			t.Errorf("%s: Close = %d instances, %d instructions, %d", c.what, len(got.Instances), n, errno)
		}
	}
}

func TestUnchangedByNames(t *testing.T) { // P13.2: what a closure has are numbers
	u := mustLower(t, ring)
	want := mustClose(t, u)
	for n := range u.Procs {
		u.Procs[n].Name = ""
	}
	for n := range u.Mutexes {
		u.Mutexes[n].Name = "m"
	}
	if c := mustClose(t, u); !reflect.DeepEqual(c, want) {
		t.Errorf("Close = %v; want %v", c, want)
	}
}
