package flow_test

import (
	"slices"
	"strings"
	"testing"

	"lockorder/api"
	"lockorder/flow"
	"lockorder/instance"
	"lockorder/lower"
	"lockorder/parse"
)

const least, most = -1 << 63, 1<<63 - 1

// mustParse returns the program with a text that is right.
func mustParse(t *testing.T, s string) api.Program {
	t.Helper()
	p, n, errno := parse.Program([]byte(s))
	if errno != api.OK {
		t.Fatalf("Program(%.80q) = %d, %d", s, n, errno)
	}
	return p
}

// mustLower returns the code of a text that is a right program.
func mustLower(t *testing.T, s string) api.Unit {
	t.Helper()
	u, f, n, errno := lower.Lower(mustParse(t, s))
	if errno != api.OK {
		t.Fatalf("Lower(%.80q) = %d, %d, %d", s, f, n, errno)
	}
	return u
}

// mustClose returns the closure of a unit that is not too large.
func mustClose(t *testing.T, u api.Unit) api.Closure {
	t.Helper()
	c, errno := instance.Close(u)
	if errno != api.OK {
		t.Fatalf("Close = %v, %d", c, errno)
	}
	return c
}

// name returns an instance as text, such as f(a,b).
func name(u api.Unit, i api.Instance) string {
	var l []string
	for _, m := range i.Locks {
		l = append(l, u.Mutexes[m].Name)
	}
	return u.Procs[i.Proc].Name + "(" + strings.Join(l, ",") + ")"
}

// named returns the instance of a program with this text.
func named(t *testing.T, u api.Unit, s string) api.Instance {
	t.Helper()
	for _, i := range mustClose(t, u).Instances {
		if name(u, i) == s {
			return i
		}
	}
	t.Fatalf("there is no instance %s", s)
	return api.Instance{}
}

// The relations of a mutex whose cap is 1, and of one whose cap is MaxDepth.
var (
	same1, up1, down1 = []int{1, 2}, []int{2, 0}, []int{0, 1}
	same8             = []int{1, 2, 4, 8, 16, 32, 64, 128, 256}
	up8               = []int{2, 4, 8, 16, 32, 64, 128, 256, 0}
	down8             = []int{0, 1, 2, 4, 8, 16, 32, 64, 128}
)

// mixed is a program with all kinds of instructions, mutexes and ways to name one.
const mixed = "var x; mutex a; rmutex r; mutex c[3]; mutex b; mutex d[1]; " +
	"func main() { lock a; unlock a; lock r; unlock r; lock c[0]; unlock c[x]; lock b; unlock b; lock d[0]; unlock d[0]; f(1, mutex a, 2, mutex r); f(0, mutex c[1], 0, mutex b); g(mutex d[0], mutex d[0]); go g(mutex r, mutex c[0]); x = 1; } " +
	"func f(n, mutex m, k, mutex l) { lock m; lock l; unlock m; unlock l; lock a; go f(n, mutex m, k, mutex l); g(mutex l, mutex m); var y = n; return; unlock b; if k { lock l; } else { unlock l; } while n { unlock c[n]; } } " +
	"func g(mutex m, mutex n) { lock n; unlock n; lock m; unlock m; }"

func TestChange(t *testing.T) { // P15.1
	u := mustLower(t, mixed)
	for _, c := range []struct {
		instance string
		want     []string // for each instruction, what it changes
	}{
		{"main()", []string{"+a", "-a", "+r", "-r", "+c", "-c", "+b", "-b", "+d", "-d", "", "", "", "", "", ""}},
		// The mutex of an instruction is the one that the parameter stands for.
		{"f(a,r)", []string{"+a", "+r", "-a", "-r", "+a", "", "", "", "", "-b", "", "+r", "", "-r", "", "-c", "", ""}},
		{"f(c,b)", []string{"+c", "+b", "-c", "-b", "+a", "", "", "", "", "-b", "", "+b", "", "-b", "", "-c", "", ""}},
		{"g(r,c)", []string{"+c", "-c", "+r", "-r", ""}},
		{"g(r,a)", []string{"+a", "-a", "+r", "-r", ""}},
		{"g(b,c)", []string{"+c", "-c", "+b", "-b", ""}},
		// Two parameters may stand for the same mutex.
		{"g(d,d)", []string{"+d", "-d", "+d", "-d", ""}},
	} {
		i := named(t, u, c.instance)
		if len(u.Procs[i.Proc].Code) != len(c.want) {
			t.Fatalf("%s has %d instructions; want %d", c.instance, len(u.Procs[i.Proc].Code), len(c.want))
		}
		for pc, s := range c.want {
			for m, mutex := range u.Mutexes {
				want := 0
				switch s {
				case "+" + mutex.Name:
					want = 1
				case "-" + mutex.Name:
					want = -1
				}
				if n := flow.Change(u, i, pc, m); n != want {
					t.Errorf("Change(%s, %d, %s) = %d; want %d", c.instance, pc, mutex.Name, n, want)
				}
			}
		}
	}
}

func TestRelation(t *testing.T) { // P15.1
	u := mustLower(t, mixed)
	for _, c := range []struct {
		instance string
		pc       int
		want     [5][]int // those for a, r, c, b and d
	}{
		{"main()", 0, [5][]int{up1, same8, same8, same1, same8}},
		{"main()", 1, [5][]int{down1, same8, same8, same1, same8}},
		{"main()", 2, [5][]int{same1, up8, same8, same1, same8}},
		{"main()", 3, [5][]int{same1, down8, same8, same1, same8}},
		{"main()", 4, [5][]int{same1, same8, up8, same1, same8}},
		{"main()", 5, [5][]int{same1, same8, down8, same1, same8}},
		{"main()", 6, [5][]int{same1, same8, same8, up1, same8}},
		{"main()", 7, [5][]int{same1, same8, same8, down1, same8}},
		// An array of one element is no scalar.
		{"main()", 8, [5][]int{same1, same8, same8, same1, up8}},
		{"main()", 9, [5][]int{same1, same8, same8, same1, down8}},
		// A call and a start change nothing themselves, even if what is called does.
		{"main()", 10, [5][]int{same1, same8, same8, same1, same8}},
		{"main()", 13, [5][]int{same1, same8, same8, same1, same8}},
		{"main()", 14, [5][]int{same1, same8, same8, same1, same8}},
		{"main()", 15, [5][]int{same1, same8, same8, same1, same8}},
		{"f(a,r)", 0, [5][]int{up1, same8, same8, same1, same8}},
		{"f(a,r)", 3, [5][]int{same1, down8, same8, same1, same8}},
		{"f(c,b)", 0, [5][]int{same1, same8, up8, same1, same8}},
		{"f(c,b)", 3, [5][]int{same1, same8, same8, down1, same8}},
		{"f(c,b)", 8, [5][]int{same1, same8, same8, same1, same8}},
		// What follows a return has its relation as well.
		{"f(c,b)", 9, [5][]int{same1, same8, same8, down1, same8}},
		{"f(c,b)", 10, [5][]int{same1, same8, same8, same1, same8}},
		{"f(c,b)", 12, [5][]int{same1, same8, same8, same1, same8}},
		{"f(c,b)", 14, [5][]int{same1, same8, same8, same1, same8}},
		{"g(d,d)", 0, [5][]int{same1, same8, same8, same1, up8}},
		{"g(d,d)", 3, [5][]int{same1, same8, same8, same1, down8}},
	} {
		i := named(t, u, c.instance)
		for m, want := range c.want {
			if r := flow.Relation(u, i, c.pc, m); !slices.Equal(r, want) {
				t.Errorf("Relation(%s, %d, %s) = %v; want %v", c.instance, c.pc, u.Mutexes[m].Name, r, want)
			}
		}
	}
}

func TestExample(t *testing.T) { // the example of the chapter
	u := mustLower(t, "mutex a; func main() { lock a; }")
	if r := flow.Relation(u, api.Instance{Proc: u.Main}, 0, 0); !slices.Equal(r, []int{2, 0}) {
		t.Errorf("Relation = %v; want {2, 0}", r)
	}
}

func TestNext(t *testing.T) { // P15.2
	for _, c := range []struct {
		body string // of main
		want [][]int
	}{
		{"", [][]int{nil}},
		{"return;", [][]int{nil, nil}},
		{"return; return; x = 1;", [][]int{nil, nil, {3}, nil}},
		// What is called or started does not matter; control goes on behind the call.
		{"x = 1; var y = x; lock a; unlock a; f(); go f(); main(); go main();", [][]int{{1}, {2}, {3}, {4}, {5}, {6}, {7}, {8}, nil}},
		// Both ways are the same one.
		{"if x { }", [][]int{{1}, nil}},
		{"if x { } if x { }", [][]int{{1}, {2}, nil}},
		{"if x { x = 1; }", [][]int{{1, 2}, {2}, nil}},
		{"if x { return; }", [][]int{{1, 2}, nil, nil}},
		{"if x { } else { x = 1; }", [][]int{{1, 2}, {3}, {3}, nil}},
		{"if x { lock a; } else { unlock a; f(); }", [][]int{{1, 3}, {2}, {5}, {4}, {5}, nil}},
		{"if x { return; } else { return; } x = 1;", [][]int{{1, 3}, nil, {4}, nil, {5}, nil}},
		{"if x { if x { } } else { if x { } }", [][]int{{1, 3}, {2}, {4}, {4}, nil}},
		{"while x { }", [][]int{{1, 2}, {0}, nil}},
		{"while x { lock a; }", [][]int{{1, 3}, {2}, {0}, nil}},
		{"while x { return; }", [][]int{{1, 3}, nil, {0}, nil}},
		{"x = 1; while x { while x { } }", [][]int{{1}, {2, 5}, {3, 4}, {2}, {1}, nil}},
		{"while x { if x { return; } else { f(); } }", [][]int{{1, 6}, {2, 4}, nil, {5}, {5}, {0}, nil}},
		// The value of a condition does not matter.
		{"if 0 { x = 1; } if 1 { x = 1; } while 0 { } while 1 { }", [][]int{{1, 2}, {2}, {3, 4}, {4}, {5, 6}, {4}, {7, 8}, {6}, nil}},
	} {
		u := mustLower(t, "var x; mutex a; func f() { } func main() { "+c.body+" }")
		main := api.Instance{Proc: 1}
		if len(u.Procs[1].Code) != len(c.want) {
			t.Fatalf("%s: %d instructions; want %d", c.body, len(u.Procs[1].Code), len(c.want))
		}
		for pc, want := range c.want {
			if l := flow.Next(u, main, pc); !slices.Equal(l, want) {
				t.Errorf("%s: Next(%d) = %v; want %v", c.body, pc, l, want)
			}
		}
		if l := flow.Next(u, api.Instance{}, 0); len(l) != 0 {
			t.Errorf("%s: Next in f = %v", c.body, l)
		}
	}
}

func TestNextOfInstances(t *testing.T) { // P15.2: what the parameters stand for does not matter
	u := mustLower(t, mixed)
	want := [][]int{{1}, {2}, {3}, {4}, {5}, {6}, {7}, {8}, nil, {10}, {11, 13}, {12}, {14}, {14}, {15, 17}, {16}, {14}, nil}
	for _, s := range []string{"f(a,r)", "f(c,b)"} {
		i := named(t, u, s)
		for pc := range want {
			if l := flow.Next(u, i, pc); !slices.Equal(l, want[pc]) {
				t.Errorf("Next(%s, %d) = %v; want %v", s, pc, l, want[pc])
			}
		}
	}
}

func TestConsequence(t *testing.T) { // P15.3
	u := mustLower(t, mixed)
	changed := 0
	for _, i := range mustClose(t, u).Instances {
		for pc := range u.Procs[i.Proc].Code {
			if l := changes(u, i, pc); len(l) > 1 {
				t.Errorf("instruction %d of %s changes the mutexes %v", pc, name(u, i), l)
			} else {
				changed += len(l)
			}
		}
	}
	if changed != 10+2*9+4*4 { // those of main, two instances of f, and four of g
		t.Errorf("%d instructions change a mutex", changed)
	}
}
