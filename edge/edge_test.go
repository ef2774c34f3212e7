package edge_test

import (
	"slices"
	"strconv"
	"strings"
	"testing"

	"lockorder/api"
	"lockorder/edge"
	"lockorder/instance"
	"lockorder/lower"
	"lockorder/parse"
)

const least, most = -1 << 63, 1<<63 - 1

// subject is a program as code, with its closure.
type subject struct {
	source  string
	unit    api.Unit
	closure api.Closure
}

// read returns the subject with this source, and false if it is no program with a closure.
func read(source string) (subject, bool) {
	p, _, errno := parse.Program([]byte(source))
	if errno != api.OK {
		return subject{}, false
	}
	u, _, _, errno := lower.Lower(p)
	if errno != api.OK {
		return subject{}, false
	}
	c, errno := instance.Close(u)
	return subject{source, u, c}, errno == api.OK
}

// mustRead returns the subject with a source that is right.
func mustRead(t *testing.T, source string) subject {
	t.Helper()
	s, is := read(source)
	if !is {
		t.Fatalf("%.200q is no program with a closure", source)
	}
	return s
}

// name returns the instance n as text, such as f(a,b).
func (s subject) name(n int) string {
	i := s.closure.Instances[n]
	return s.unit.Procs[i.Proc].Name + "(" + strings.Join(s.mutexNames(i.Locks), ",") + ")"
}

// mutexNames returns the names of mutexes.
func (s subject) mutexNames(l []int) []string {
	names := []string{}
	for _, m := range l {
		names = append(names, s.unit.Mutexes[m].Name)
	}
	return names
}

// text returns edges as text: the two mutexes and the instruction of each, such as ab main():1.
func (s subject) text(l []api.Edge) []string {
	text := []string{}
	for _, e := range l {
		text = append(text, strings.Join(s.mutexNames([]int{e.Held, e.Acquired}), "")+" "+s.name(e.Instance)+":"+strconv.Itoa(e.PC))
	}
	return text
}

func (s subject) edges() []api.Edge { return edge.Edges(s.unit, s.closure) }

// held returns what Held returns as text: the names of the mutexes that may be held, and of those that must be held.
func (s subject) held(i, pc int) string {
	may, must := edge.Held(s.unit, s.closure, i, pc)
	return strings.Join(s.mutexNames(may), "") + " " + strings.Join(s.mutexNames(must), "")
}

func TestExample(t *testing.T) { // that of the chapter
	s := mustRead(t, "mutex a; mutex b; func main() { lock a; lock b; }")
	if l := s.edges(); !slices.Equal(l, []api.Edge{{Held: 0, Acquired: 1, Instance: 0, PC: 1}}) {
		t.Errorf("%v", l)
	}
}

// bodyCase is a body of main, and the edges that it has.
type bodyCase struct{ body, edges string }

// testBodies tests Edges for programs that only have main.
func testBodies(t *testing.T, cases []bodyCase) {
	t.Helper()
	for _, c := range cases {
		s := mustRead(t, "mutex a; mutex b; rmutex r; rmutex q; mutex c[9]; mutex d[2]; var x; func main() { "+c.body+" }")
		want := []string{}
		for at := range strings.FieldsSeq(c.edges) {
			pair, pc, _ := strings.Cut(at, ":")
			want = append(want, pair+" main():"+pc)
		}
		if got := s.text(s.edges()); !slices.Equal(got, want) {
			t.Errorf("%s: the edges are %v; want %v", c.body, got, want)
		}
	}
}

func TestSorts(t *testing.T) { // P20.1: each sort of mutex is held while each sort is locked
	testBodies(t, []bodyCase{
		{"lock a; lock b;", "ab:1"},
		{"lock b; lock a;", "ba:1"},
		{"lock a; lock r;", "ar:1"},
		{"lock a; lock c[0];", "ac:1"},
		{"lock r; lock a;", "ra:1"},
		{"lock r; lock q;", "rq:1"},
		{"lock r; lock c[0];", "rc:1"},
		{"lock c[0]; lock a;", "ca:1"},
		{"lock c[0]; lock r;", "cr:1"},
		{"lock c[1]; lock d[0];", "cd:1"},
		// A mutex that is locked while it is held itself.
		{"lock a; lock a;", ""},
		{"lock r; lock r;", ""},
		{"lock c[0]; lock c[1];", "cc:1"},
		{"lock c[0]; lock c[0];", "cc:1"},
		{"if x { lock a; } lock a;", ""},
		{"if x { lock r; } lock r;", ""},
		{"if x { lock d[1]; } lock d[0];", "dd:2"},
	})
}

func TestHolding(t *testing.T) { // P20.1: the mutex that is held
	testBodies(t, []bodyCase{
		{"", ""},
		{"lock a;", ""},
		{"lock c[x];", ""},
		{"lock a; unlock a; lock b;", ""},
		{"lock a; if x { unlock a; } lock b;", "ab:3"},
		{"if x { lock a; } lock b;", "ab:2"},
		{"if x { lock a; } else { lock b; } lock r;", "ar:4 br:4"},
		{"lock r; lock r; unlock r; lock b; unlock r; lock b;", "rb:3"},
		{"lock d[0]; lock d[1]; unlock d[1]; lock b; unlock d[x]; lock a;", "ba:5 db:3 dd:1"},
		// It is not said to which depth.
		{"lock r; lock r; lock r; lock r; lock r; lock r; lock r; lock r; lock b;", "rb:8"},
		// Other instructions have no edges.
		{"lock a; x = 1; unlock b; if x { } while x { } return;", ""},
		// In a loop, what is locked late is held early.
		{"while x { lock a; lock r; }", "ar:2 ra:1"},
		{"while x { lock r; lock d[x]; }", "rd:2 dr:1 dd:2"},
		{"while x { lock b; unlock a; lock a; }", "ba:3"},
		// No path has what follows an event of the mutex that is held, or a return.
		{"lock a; lock a; lock b;", ""},
		{"unlock a; lock a; lock b;", ""},
		{"lock a; return; lock b;", ""},
		{"lock a; if x { lock a; } lock b;", "ab:3"},
		{"lock r; lock a; lock a; lock b;", "ra:1 ra:2 rb:3"},
		{"lock c[0]; lock c[1]; lock c[2]; lock c[3]; lock c[4]; lock c[5]; lock c[6]; lock c[7]; lock c[8]; lock b;", "cc:1 cc:2 cc:3 cc:4 cc:5 cc:6 cc:7 cc:8"},
	})
}

func TestAcquiring(t *testing.T) { // P20.1: the mutex that is locked; only a reentrant one must be one that is not held on some path
	testBodies(t, []bodyCase{
		{"lock r; lock a; lock r;", "ra:1"},
		{"if x { lock r; } lock a; lock r;", "ar:3 ra:2"},
		{"lock r; lock a; if x { unlock r; } lock r;", "ar:4 ra:1"},
		{"lock r; lock r; lock a; if x { unlock r; } lock r;", "ra:2"},
		{"lock r; lock r; lock a; unlock r; unlock r; lock r;", "ar:5 ra:2"},
		{"lock r; lock q; lock r; lock q;", "rq:1"},
		{"lock c[0]; lock r; lock r; lock c[0];", "rc:3 cr:1 cc:3"},
		// A plain one may be held on all paths.
		{"lock b; lock a; lock b;", "ab:2 ba:1"},
		{"lock d[0]; lock a; lock d[1];", "ad:2 da:1 dd:2"},
		// What follows an event of it has no path of it, and so no depth 0.
		{"lock a; unlock r; lock r;", ""},
		{"lock a; unlock b; lock b;", "ab:2"},
		{"lock a; unlock d[0]; lock d[0];", "ad:2"},
		{"lock a; if x { unlock r; } lock r;", "ar:3"},
	})
}

// Programs with calls whose arguments are mutexes, elements, and parameters.
const (
	nested  = "mutex a; rmutex b; mutex c[3]; var x; func main() { lock a; f(mutex b, mutex c[x]); lock b; } func f(mutex m, mutex k) { lock k; g(mutex k, mutex m); } func g(mutex m, mutex k) { lock k; lock m; unlock k; unlock m; }"
	started = "mutex a; mutex b; mutex c; func main() { lock a; go f(mutex b); lock b; lock b; go g(); } func f(mutex m) { lock m; lock a; } func g() { lock c; lock b; f(mutex c); }"
	forever = "rmutex a; mutex b; mutex c[2]; func main() { f(mutex a, mutex b); } func f(mutex m, mutex k) { lock m; lock k; f(mutex k, mutex c[0]); } func g() { lock b; lock a; }"
)

func TestInstances(t *testing.T) { // P20.1: calls, starts, and parameters; the order
	for source, want := range map[string][]string{
		nested: {"ab main():2", "ab g(c,b):0", "ac f(b,c):0", "ac g(c,b):1", "bc g(c,b):1", "cb main():2", "cb g(c,b):0", "cc g(c,b):1"},
		// A thread begins without what the one that starts it holds, and also where no path of a mutex leads to its start.
		started: {"ab main():2", "ab main():3", "ba f(b):1", "ba f(c):1", "bc f(c):0", "cb g():1"},
		// No call returns, and g is never called.
		forever: {"ab f(a,b):1", "ab f(b,c):0", "ac f(b,c):1", "ac f(c,c):0", "ac f(c,c):1", "cc f(c,c):0", "cc f(c,c):1"},
	} {
		s := mustRead(t, source)
		if got := s.text(s.edges()); !slices.Equal(got, want) {
			t.Errorf("%s: the edges are %v; want %v", source, got, want)
		}
	}
}

func TestPairs(t *testing.T) { // P20.2
	for _, c := range []struct {
		edges []api.Edge
		want  [][]int
	}{
		{nil, nil},
		{[]api.Edge{}, nil},
		{[]api.Edge{{}}, [][]int{{0, 0}}},
		{[]api.Edge{{Held: 1, Acquired: 2, Instance: 3, PC: 4}}, [][]int{{1, 2}}},
		// Instance and PC do not make a difference, and Held and Acquired do.
		{[]api.Edge{{Held: 1, Acquired: 2}, {Held: 1, Acquired: 2, PC: 1}, {Held: 1, Acquired: 2, Instance: 1}, {Held: 1, Acquired: 2}}, [][]int{{1, 2}}},
		{[]api.Edge{{Held: 1, Acquired: 2}, {Held: 2, Acquired: 1}, {Held: 1, Acquired: 1}, {Held: 2, Acquired: 2}}, [][]int{{1, 1}, {1, 2}, {2, 1}, {2, 2}}},
		// What is in another order, or is repeated later.
		{[]api.Edge{{Held: 3, Acquired: 0}, {Held: 0, Acquired: 11}, {Held: 3, Acquired: 0, PC: 1}, {Held: 0, Acquired: 2}, {Held: 0, Acquired: 11, PC: 9}}, [][]int{{0, 2}, {0, 11}, {3, 0}}},
		// Numbers of no mutexes.
		{[]api.Edge{{Held: most, Acquired: least}, {Held: least, Acquired: most}, {Held: -1, Acquired: 1}, {Held: least, Acquired: least}, {Held: 1, Acquired: -1}}, [][]int{{least, least}, {least, most}, {-1, 1}, {1, -1}, {most, least}}},
	} {
		if got := edge.Pairs(c.edges); !slices.EqualFunc(got, c.want, slices.Equal) {
			t.Errorf("Pairs(%v) = %v; want %v", c.edges, got, c.want)
		}
	}
	s := mustRead(t, nested)
	if got := edge.Pairs(s.edges()); !slices.EqualFunc(got, [][]int{{0, 1}, {0, 2}, {1, 2}, {2, 1}, {2, 2}}, slices.Equal) {
		t.Errorf("%s: Pairs = %v", nested, got)
	}
}

func TestHeld(t *testing.T) { // P20.2
	for source, want := range map[string]map[string][]string{
		"mutex a; func main() { }": {"main()": {" "}},
		"func main() { }":          {"main()": {" "}},
		nested:                     {"main()": {" ", "a a", "ac ac", "abc abc"}, "f(b,c)": {"a a", "ac ac", "ac ac"}, "g(c,b)": {"ac ac", "abc abc", "abc abc", "ac ac", "ac ac"}},
		// Behind an event a mutex is not held. Before an instruction without a path it need not be held either.
		started: {"main()": {" ", "a a", "a a", "ab ab", "a a", "a a"}, "f(b)": {" ", "b b", "ab ab"}, "g()": {" ", "c c", "bc bc", "ab ab"}, "f(c)": {"bc bc", "b b", "ab ab"}},
		// The order is that of the declarations.
		"mutex d[2]; mutex b; rmutex c; mutex a; var x; func main() { lock a; if x { lock b; lock c; } lock d[x]; lock a; if x { unlock d[1]; } }": {"main()": {" ", "a a", "a a", "ba ba", "bca a", "dbca da", "dbc d", "dbc d", "dbc "}},
		// Two calls of an instance.
		"mutex a; mutex b; var x; func main() { lock a; f(); unlock a; lock b; f(); } func f() { x = 1; return; x = 2; }": {"main()": {" ", "a a", "a a", " ", "b b", "b b"}, "f()": {"ab ", "ab ", " ", " "}},
	} {
		s := mustRead(t, source)
		for i := range s.closure.Instances {
			for pc := range s.closure.Calls[i] {
				if got, wanted := s.held(i, pc), want[s.name(i)]; len(wanted) != len(s.closure.Calls[i]) || got != wanted[pc] {
					t.Errorf("%s: before instruction %d of %s, %q is held; want %q", source, pc, s.name(i), got, wanted)
				}
			}
		}
	}
}
