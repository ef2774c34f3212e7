package gate_test

import (
	"fmt"
	"slices"
	"strings"
	"testing"

	"lockorder/api"
	"lockorder/edge"
	"lockorder/gate"
	"lockorder/instance"
	"lockorder/lower"
	"lockorder/parse"
)

const least, most = -1 << 63, 1<<63 - 1

// subject is a program as code, with its closure.
type subject struct {
	source  string
	unit    api.Unit
	closure api.Closure
}

// read returns the subject with this source, and false if it is no program with a closure.
func read(source string) (subject, bool) {
	p, _, errno := parse.Program([]byte(source))
	if errno != api.OK {
		return subject{}, false
	}
	u, _, _, errno := lower.Lower(p)
	if errno != api.OK {
		return subject{}, false
	}
	c, errno := instance.Close(u)
	return subject{source, u, c}, errno == api.OK
}

// mustRead returns the subject with a source that is right.
func mustRead(t *testing.T, source string) subject {
	t.Helper()
	s, is := read(source)
	if !is {
		t.Fatalf("%.200q is no program with a closure", source)
	}
	return s
}

// declared are the mutexes of most programs here. The name of each is one letter.
const declared = "mutex a; mutex b; rmutex r; mutex c[3]; mutex d[2]; mutex g; rmutex h; var x; "

// threads returns the subject whose threads have these bodies; the first one is that of main.
func threads(t *testing.T, bodies ...string) subject {
	t.Helper()
	main, rest := "", ""
	for n, body := range bodies[1:] {
		main += fmt.Sprintf("go t%d(); ", n)
		rest += fmt.Sprintf("func t%d() { %s } ", n, body)
	}
	return mustRead(t, declared+"func main() { "+main+bodies[0]+" } "+rest)
}

// numbers returns the numbers of mutexes whose names are these letters.
func (s subject) numbers(letters string) []int {
	var l []int
	for _, letter := range letters {
		l = append(l, slices.IndexFunc(s.unit.Mutexes, func(m api.Mutex) bool { return m.Name == string(letter) }))
	}
	return l
}

// letters returns the names of mutexes.
func (s subject) letters(numbers []int) string {
	names := ""
	for _, m := range numbers {
		names += s.unit.Mutexes[m].Name
	}
	return names
}

func (s subject) edges() []api.Edge { return edge.Edges(s.unit, s.closure) }

// text returns the pairs of edges as text, such as ab ba.
func (s subject) text(l []api.Edge) string {
	var pairs []string
	for _, e := range l {
		pairs = append(pairs, s.letters([]int{e.Held, e.Acquired}))
	}
	return strings.Join(pairs, " ")
}

func (s subject) inside(component string) string {
	return s.text(gate.Inside(s.edges(), s.numbers(component)))
}

func (s subject) loop(component string) bool {
	return gate.Loop(s.unit, s.edges(), s.numbers(component))
}

func (s subject) gates(component string) string {
	return s.letters(gate.Gates(s.unit, s.closure, s.edges(), s.numbers(component)))
}

// ungated returns the components without gates as text, such as ab cd.
func (s subject) ungated() string {
	var l []string
	for _, component := range gate.Ungated(s.unit, s.closure, s.edges()) {
		l = append(l, s.letters(component))
	}
	return strings.Join(l, " ")
}

func TestExample(t *testing.T) { // that of the chapter
	s := threads(t, "lock g; lock a; lock b;", "lock g; lock b; lock a;")
	if gates := s.gates("ab"); gates != "g" {
		t.Errorf("%s: the gates of a and b are %q", s.source, gates)
	}
	if s.ungated() != "" || s.loop("ab") || s.inside("ab") != "ab ba" {
		t.Errorf("%s: %q, %t, %q", s.source, s.ungated(), s.loop("ab"), s.inside("ab"))
	}
}

// e returns an edge that has a number of its own as its PC.
func e(held, acquired, pc int) api.Edge { return api.Edge{Held: held, Acquired: acquired, PC: pc} }

func TestInside(t *testing.T) { // P22.1
	l := []api.Edge{e(1, 2, 0), e(2, 1, 1), e(1, 1, 2), e(2, 3, 3), e(3, 2, 4), e(1, 2, 5), e(0, 0, 6), e(1, 2, 0)}
	for _, c := range []struct {
		component []int
		want      []int // the indexes in l
	}{
		{nil, nil},
		{[]int{}, nil},
		{[]int{0}, []int{6}},
		{[]int{1}, []int{2}},
		// An edge that begins or ends in the component is not inside.
		{[]int{2}, nil},
		{[]int{3}, nil},
		{[]int{1, 3}, []int{2}},
		{[]int{4}, nil},
		// Edges are repeated as they are in the list, whatever the order of the component.
		{[]int{1, 2}, []int{0, 1, 2, 5, 7}},
		{[]int{2, 1}, []int{0, 1, 2, 5, 7}},
		{[]int{2, 1, 2, 2, 1}, []int{0, 1, 2, 5, 7}},
		{[]int{2, 3}, []int{3, 4}},
		{[]int{3, 2, 1}, []int{0, 1, 2, 3, 4, 5, 7}},
		{[]int{0, 1, 2, 3}, []int{0, 1, 2, 3, 4, 5, 6, 7}},
		{[]int{11, 0, 2}, []int{6}},
	} {
		var want []api.Edge
		for _, i := range c.want {
			want = append(want, l[i])
		}
		if got := gate.Inside(l, c.component); !slices.Equal(got, want) {
			t.Errorf("Inside(%v, %v) = %v; want %v", l, c.component, got, want)
		}
	}
	if got := gate.Inside(nil, []int{0, 1}); len(got) > 0 {
		t.Errorf("Inside(nil) = %v", got)
	}
	// All fields are kept.
	whole := []api.Edge{{Held: 1, Acquired: 2, Instance: 3, PC: 4}, {Held: 2, Acquired: 1, Instance: 5, PC: 6}}
	if got := gate.Inside(whole, []int{2, 1}); !slices.Equal(got, whole) {
		t.Errorf("Inside(%v) = %v", whole, got)
	}
	// What is no number of a mutex.
	odd := []api.Edge{e(least, most, 0), e(most, least, 1), e(-1, least, 2)}
	if got := gate.Inside(odd, []int{most, least}); !slices.Equal(got, odd[:2]) {
		t.Errorf("Inside(%v) = %v", odd, got)
	}
}

func TestInsideOfPrograms(t *testing.T) { // P22.1: the edges of package edge
	s := threads(t, "lock a; lock b; lock c[0]; lock c[1];", "lock b; lock a; lock d[0];")
	for component, want := range map[string]string{"": "", "a": "", "b": "", "c": "cc", "d": "", "ab": "ab ba", "ac": "ac cc", "cb": "bc cc", "abc": "ab ac ac ba bc bc cc", "abd": "ab ad ba bd"} {
		got := strings.Fields(s.inside(component))
		if want := strings.Fields(want); !slices.Equal(slices.Compact(got), slices.Compact(want)) {
			t.Errorf("%s: inside of %q are %v; want %v", s.source, component, got, want)
		}
	}
}

func TestLoop(t *testing.T) { // P22.1
	u := threads(t, "").unit // a 0, b 1, r 2, c 3, d 4, g 5, h 6
	for _, c := range []struct {
		edges     []api.Edge
		component []int
		want      bool
	}{
		{nil, []int{3}, false},
		{nil, nil, false},
		{[]api.Edge{e(3, 3, 0)}, nil, false},
		{[]api.Edge{e(3, 3, 0)}, []int{3}, true},
		{[]api.Edge{e(3, 3, 0)}, []int{0, 3}, true},
		{[]api.Edge{e(4, 4, 0)}, []int{4, 3}, true},
		// It is one of the component.
		{[]api.Edge{e(3, 3, 0)}, []int{4}, false},
		{[]api.Edge{e(3, 3, 0)}, []int{0, 1, 2, 4, 5, 6}, false},
		// It is an array.
		{[]api.Edge{e(0, 0, 0)}, []int{0}, false},
		{[]api.Edge{e(2, 2, 0)}, []int{2, 3}, false},
		{[]api.Edge{e(6, 6, 0), e(3, 0, 0), e(0, 3, 0)}, []int{0, 3, 6}, false},
		// It is the same array.
		{[]api.Edge{e(3, 4, 0), e(4, 3, 1)}, []int{3, 4}, false},
		{[]api.Edge{e(3, 4, 0), e(4, 3, 1), e(4, 4, 2)}, []int{3, 4}, true},
		{[]api.Edge{e(3, 3, 2), e(3, 4, 0), e(4, 3, 1)}, []int{3, 4}, true},
		// What is no number of a mutex is no array.
		{[]api.Edge{e(-1, -1, 0), e(7, 7, 0), e(least, least, 0), e(most, most, 0)}, []int{-1, 7, least, most}, false},
	} {
		if got := gate.Loop(u, c.edges, c.component); got != c.want {
			t.Errorf("Loop(%v, %v) = %t", c.edges, c.component, got)
		}
	}
	// An array with one element is one too. A mutex without a size is none.
	mutexes := []api.Mutex{{Name: "a", Size: 1}, {Name: "b"}, {Name: "c", Size: api.MaxElements}}
	for m, want := range []bool{true, false, true} {
		if got := gate.Loop(api.Unit{Mutexes: mutexes}, []api.Edge{e(m, m, 0)}, []int{m}); got != want {
			t.Errorf("Loop of %v = %t", mutexes[m], got)
		}
	}
}

// gateCase is a component of a program, with its gates, and with all components that have none.
type gateCase struct {
	bodies                    []string
	component, gates, ungated string
}

func testGates(t *testing.T, cases []gateCase) {
	t.Helper()
	for _, c := range cases {
		s := threads(t, c.bodies...)
		if gates := s.gates(c.component); gates != c.gates {
			t.Errorf("%s: the gates of %q are %q; want %q", s.source, c.component, gates, c.gates)
		}
		if ungated := s.ungated(); ungated != c.ungated {
			t.Errorf("%s: without gates are %q; want %q", s.source, ungated, c.ungated)
		}
	}
}

func TestGates(t *testing.T) { // P22.2, P22.3: what is a gate
	testGates(t, []gateCase{
		{[]string{"lock a; lock b;", "lock b; lock a;"}, "ab", "", "ab"},
		{[]string{"lock g; lock a; lock b;", "lock b; lock a;"}, "ab", "", "ab"},
		{[]string{"lock a; lock b;", "lock g; lock b; lock a;"}, "ab", "", "ab"},
		{[]string{"lock g; lock a; lock b;", "lock h; lock b; lock a;"}, "ab", "", "ab"},
		{[]string{"lock h; lock a; lock b;", "lock h; lock b; lock a;"}, "ab", "h", ""},
		{[]string{"lock g; lock h; lock a; lock b;", "lock h; lock g; lock b; lock a;"}, "ab", "gh", "gh"},
		{[]string{"lock r; lock h; lock g; lock b; lock a;", "lock r; lock h; lock g; lock a; lock b;"}, "ab", "rgh", ""},
		{[]string{"lock h; lock h; lock a; lock b;", "lock h; lock b; lock h; lock a;"}, "ab", "h", ""},
		// A gate may be locked between the mutexes of the cycle. One for each of its edges is not enough if they have none in common.
		{[]string{"lock a; lock g; lock b;", "lock b; lock g; lock a;"}, "ab", "g", "abg"},
		{[]string{"lock g; lock h; lock a; lock b;", "lock g; lock b; lock r;", "lock g; lock r; lock h; lock a;"}, "abr", "g", ""},
		{[]string{"lock g; lock a; lock b;", "lock g; lock h; lock b; lock r;", "lock h; lock r; lock a;"}, "abr", "", "abr"},
		// An array is none, even if it has the same element on all paths, and it may be part of the cycle.
		{[]string{"lock c[0]; lock a; lock b;", "lock c[0]; lock b; lock a;"}, "ab", "", "ab"},
		{[]string{"lock g; lock c[0]; lock a;", "lock g; lock a; lock c[0];"}, "ac", "g", ""},
		{[]string{"lock g; lock c[0]; lock d[1];", "lock g; lock d[x]; lock c[2];"}, "cd", "g", ""},
		{[]string{"lock c[0]; lock a;", "lock a; lock c[0];"}, "ac", "", "ac"},
		// It must be held where the edge is, before the instruction.
		{[]string{"lock g; lock a; unlock g; lock b;", "lock g; lock b; lock a;"}, "ab", "", "ab"},
		{[]string{"lock g; lock a; lock b; unlock g; lock b;", "lock g; lock b; lock a;"}, "ab", "", "ab"},
		{[]string{"lock a; lock b; lock g;", "lock g; lock b; lock a;"}, "ab", "", "abg"},
		// It must be held on all paths.
		{[]string{"if x { lock g; } lock a; lock b;", "lock g; lock b; lock a;"}, "ab", "", "ab"},
		{[]string{"lock g; lock a; if x { unlock g; } lock b;", "lock g; lock b; lock a;"}, "ab", "", "ab"},
		{[]string{"if x { lock g; } else { lock g; } lock a; lock b;", "lock g; lock b; lock a;"}, "ab", "g", ""},
		{[]string{"while x { lock h; } lock a; lock b;", "lock h; lock b; lock a;"}, "ab", "", "ab"},
		{[]string{"lock h; while x { lock h; } lock a; lock b;", "lock h; lock b; lock a;"}, "ab", "h", ""},
		{[]string{"lock h; while x { unlock h; } lock a; lock b;", "lock h; lock b; lock a;"}, "ab", "", "ab"},
	})
}

func TestEdgesOfGates(t *testing.T) { // P22.2, P22.3: which edges count
	testGates(t, []gateCase{
		// Only those inside the component.
		{[]string{"lock g; lock a; lock b; unlock b; unlock a; unlock g; lock a; lock r;", "lock g; lock b; lock a;"}, "ab", "g", ""},
		{[]string{"lock g; lock a; lock b;", "lock g; lock b; lock a;", "lock r; lock a; unlock a; lock b;"}, "ab", "g", ""},
		{[]string{"lock g; lock a; lock b;", "lock g; lock b; lock a;", "lock a;", "lock b;"}, "ab", "g", ""},
		{[]string{"lock g; lock a; lock b;", "lock g; lock b; lock a;", "lock a; lock b;"}, "ab", "", "ab"},
		// No edges. A component need not be one of the graph.
		{[]string{"lock g; lock a;", "lock g; lock b;"}, "ab", "", ""},
		{[]string{"lock g; lock a; lock b;", "lock g; lock b; lock a;"}, "", "", ""},
		{[]string{"lock g; lock a; lock b;", "lock g; lock b; lock a;"}, "a", "", ""},
		{[]string{"lock g; lock a; lock b;", "lock g; lock b; lock a;"}, "rh", "", ""},
		{[]string{"lock g; lock a; lock b;"}, "ab", "ag", ""},
		{[]string{"lock g; lock a; lock b;"}, "ba", "ag", ""},
		{[]string{"lock g; lock a; lock b;"}, "bbaab", "ag", ""},
		{[]string{"lock g; lock a; lock b;"}, "abg", "g", ""},
		{[]string{"lock g; lock a; lock b;"}, "ga", "g", ""},
		{[]string{"lock g; lock c[x]; lock b;"}, "cb", "g", ""},
		// A mutex of the cycle may be its gate.
		{[]string{"lock a; lock b; lock a;"}, "ab", "a", ""},
		{[]string{"lock h; lock b; lock h;"}, "hb", "h", ""},
		{[]string{"lock g; lock a; lock b; lock g;"}, "abg", "g", ""},
		// Where no path of a mutex leads, it need not be held, as after an event of it.
		{[]string{"unlock g; lock g; lock a; lock b;", "lock g; lock b; lock a;"}, "ab", "", "ab"},
		{[]string{"lock g; lock g; lock a; lock b;", "lock g; lock b; lock a;"}, "ab", "", "ab"},
		{[]string{"lock h; unlock h; unlock h; lock h; lock g; lock a; lock b;", "lock h; lock g; lock b; lock a;"}, "ab", "g", ""},
		{[]string{"lock g; if x { unlock r; } lock a; lock b;", "lock g; lock r; lock b; lock a;"}, "ab", "g", ""},
		// What cannot be reached at all has no edge.
		{[]string{"lock g; lock a; lock b; return; unlock g; lock a;", "lock g; lock b; lock a;"}, "ab", "g", ""},
		{[]string{"return; lock a; lock b;", "lock g; lock b; lock a;"}, "ab", "bg", ""},
	})
}

func TestLoopsOfGates(t *testing.T) { // P22.2, P22.3: a loop opens the gates of its component
	testGates(t, []gateCase{
		{[]string{"lock c[0]; lock c[1];"}, "c", "", "c"},
		{[]string{"lock g; lock c[0]; lock c[1];"}, "c", "", "c"},
		{[]string{"lock g; lock c[0]; lock c[0];"}, "c", "", "c"},
		{[]string{"lock g; lock c[0]; lock a; unlock c[0]; lock c[1];"}, "ac", "g", ""},
		{[]string{"lock g; lock c[0]; lock a; lock c[1];"}, "ac", "", "ac"},
		{[]string{"lock g; lock c[0]; lock a;", "lock g; lock a; lock c[0];", "lock g; lock c[0]; lock c[1];"}, "ac", "", "ac"},
		// A loop of another component.
		{[]string{"lock g; lock a; lock b;", "lock g; lock b; lock a;", "lock g; lock c[0]; lock c[1];"}, "ab", "g", "c"},
		{[]string{"lock g; lock c[0]; lock c[1]; lock d[0];", "lock g; lock d[0]; lock a;", "lock g; lock a; lock d[0];"}, "ad", "g", "c"},
		{[]string{"lock g; lock c[0]; lock c[1]; lock d[0];"}, "cd", "", "c"},
		{[]string{"lock g; lock c[0]; lock c[1]; lock d[0];"}, "d", "", "c"},
	})
}

func TestUngated(t *testing.T) { // P22.3
	for _, c := range []struct {
		bodies []string
		want   string
	}{
		{[]string{""}, ""},
		{[]string{"lock a;"}, ""},
		{[]string{"lock a; lock b; lock r; lock c[0]; lock d[0]; lock g; lock h;"}, ""},
		// The order is that of the first mutexes.
		{[]string{"lock h; lock r; unlock r; unlock h; lock r; lock h; unlock h; unlock r; lock g; lock a; unlock g; lock g;"}, "ag rh"},
		{[]string{"lock g; lock a; lock b;", "lock g; lock b; lock a;", "lock r; lock h;", "lock h; lock r;"}, "rh"},
		{[]string{"lock a; lock b;", "lock b; lock a;", "lock h; lock r; lock d[1];", "lock h; lock d[x]; lock r;"}, "ab"},
		// Components are whole: the gate of one cycle need not be one of another cycle in the same component.
		{[]string{"lock g; lock a; lock b; lock r;", "lock g; lock b; lock a;", "lock h; lock r; lock b;"}, "abr"},
		{[]string{"lock g; lock a; lock b;", "lock g; lock b; lock a;", "lock h; lock r; lock c[0];", "lock h; lock c[0]; lock r;"}, ""},
		{[]string{"lock g; lock a; lock b; unlock b; unlock a; lock h;", "lock g; lock b; lock a;", "lock h; lock g;"}, "gh"},
		{[]string{"lock g; lock a; lock b; lock h;", "lock h; lock g;"}, "abgh"},
		{[]string{"lock g; lock a; lock g;"}, ""},
		{[]string{"lock d[0]; lock d[1];", "lock c[0]; lock a; lock c[1];"}, "ac d"},
		// All of them.
		{[]string{"lock a; lock b;", "lock b; lock r;", "lock r; lock c[0];", "lock c[0]; lock d[0];", "lock d[0]; lock g;", "lock g; lock h;", "lock h; lock a;"}, "abrcdgh"},
	} {
		s := threads(t, c.bodies...)
		if ungated := s.ungated(); ungated != c.want {
			t.Errorf("%s: without gates are %q; want %q", s.source, ungated, c.want)
		}
	}
	s := mustRead(t, "func main() { }")
	if l := gate.Ungated(s.unit, s.closure, s.edges()); len(l) > 0 {
		t.Errorf("without mutexes there are %v", l)
	}
}

// Programs with calls whose arguments are mutexes, and with instances.
const (
	swapped   = "mutex g; mutex a; mutex b; func main() { lock g; go f(mutex a, mutex b); f(mutex a, mutex b); f(mutex b, mutex a); } func f(mutex m, mutex k) { lock m; lock k; unlock k; unlock m; }"
	guarded   = "mutex g; mutex a; mutex b; func main() { go f(mutex a, mutex b, mutex g); f(mutex b, mutex a, mutex g); } func f(mutex m, mutex k, mutex l) { lock l; lock m; lock k; unlock k; unlock m; unlock l; }"
	different = "mutex g; mutex h; mutex a; mutex b; func main() { go f(mutex a, mutex b, mutex g); f(mutex b, mutex a, mutex h); } func f(mutex m, mutex k, mutex l) { lock l; lock m; lock k; unlock k; unlock m; unlock l; }"
	called    = "mutex g; mutex a; mutex b; func main() { lock g; f(mutex a, mutex b); f(mutex b, mutex a); } func f(mutex m, mutex k) { lock m; lock k; unlock k; unlock m; }"
	free      = "mutex g; mutex a; mutex b; func main() { lock g; f(mutex a, mutex b); f(mutex b, mutex a); unlock g; h(); } func f(mutex m, mutex k) { lock m; lock k; unlock k; unlock m; } func h() { f(mutex b, mutex a); }"
	released  = "mutex g; mutex a; mutex b; func main() { lock g; lock a; f(mutex g); lock b; unlock b; unlock a; lock g; lock b; lock a; } func f(mutex m) { unlock m; }"
	recursive = "mutex a; rmutex g; mutex b; var x; func main() { lock g; f(mutex a, mutex b); } func f(mutex m, mutex k) { lock m; lock k; unlock m; unlock k; if x { lock g; f(mutex k, mutex m); unlock g; } }"
)

func TestInstances(t *testing.T) { // P22.2, P22.3: calls, starts and parameters
	for source, want := range map[string]string{
		// A thread begins without what the one that starts it holds.
		swapped:   "|ab",
		guarded:   "g|",
		different: "|ab",
		called:    "g|",
		free:      "|ab",
		released:  "|ab",
		recursive: "g|",
	} {
		s := mustRead(t, source)
		if got := s.gates("ab") + "|" + s.ungated(); got != want {
			t.Errorf("%s: %q; want %q", source, got, want)
		}
	}
}

func TestLists(t *testing.T) { // P22.1 to P22.3: edges that are not those of package edge
	s := threads(t, "lock g; lock a; lock b;") // a 0, b 1, r 2, c 3, d 4, g 5, h 6
	for _, c := range []struct {
		edges     []api.Edge
		component []int
		gates     []int
		ungated   [][]int
	}{
		{nil, []int{0, 1}, nil, nil},
		{[]api.Edge{e(0, 1, 2)}, []int{0, 1}, []int{0, 5}, nil},
		{[]api.Edge{e(0, 1, 1)}, []int{0, 1}, []int{5}, nil},
		{[]api.Edge{e(0, 1, 0)}, []int{0, 1}, nil, nil},
		{[]api.Edge{e(0, 1, 3)}, []int{0, 1}, []int{0, 1, 5}, nil},
		{[]api.Edge{e(0, 1, 2), e(1, 0, 1)}, []int{0, 1}, []int{5}, nil},
		{[]api.Edge{e(1, 0, 1), e(0, 1, 2), e(1, 0, 1)}, []int{1, 0}, []int{5}, nil},
		{[]api.Edge{e(1, 0, 0), e(0, 1, 2)}, []int{1, 0}, nil, [][]int{{0, 1}}},
		{[]api.Edge{e(1, 0, 3), e(0, 1, 2), e(0, 6, 0), e(2, 1, 0)}, []int{1, 0}, []int{0, 5}, nil},
		// A scalar with itself is a cycle, but no loop.
		{[]api.Edge{e(6, 6, 2)}, []int{6}, []int{0, 5}, nil},
		{[]api.Edge{e(5, 5, 1)}, []int{5}, []int{5}, nil},
		{[]api.Edge{e(6, 6, 0)}, []int{6}, nil, [][]int{{6}}},
		{[]api.Edge{e(6, 6, 0), e(2, 2, 0), e(4, 4, 3), e(5, 5, 3), e(0, 3, 0)}, []int{2}, nil, [][]int{{2}, {4}, {6}}},
		// Edges that have the same instruction.
		{[]api.Edge{e(0, 6, 3), e(6, 0, 3), e(3, 4, 3), e(4, 3, 3)}, []int{0, 3, 4, 6}, []int{0, 1, 5}, nil},
	} {
		if got := gate.Gates(s.unit, s.closure, c.edges, c.component); !slices.Equal(got, c.gates) {
			t.Errorf("Gates(%v, %v) = %v; want %v", c.edges, c.component, got, c.gates)
		}
		if got := gate.Ungated(s.unit, s.closure, c.edges); !slices.EqualFunc(got, c.ungated, slices.Equal) {
			t.Errorf("Ungated(%v) = %v; want %v", c.edges, got, c.ungated)
		}
	}
}

func TestMoreEdges(t *testing.T) { // P22.4
	s := threads(t, "lock g; lock h; lock a; lock b; unlock h; lock r; unlock g; lock c[0]; lock c[1];")
	l := []api.Edge{e(0, 1, 3), e(2, 0, 3), e(1, 0, 4), e(1, 2, 5), e(2, 1, 6), e(2, 1, 7), e(1, 1, 0)}
	for n, want := range []string{"", "agh", "agh", "agh", "ag", "ag", "a", ""} {
		if got := s.letters(gate.Gates(s.unit, s.closure, l[:n], s.numbers("abr"))); got != want {
			t.Errorf("the gates of %v are %q; want %q", l[:n], got, want)
		}
	}
}
