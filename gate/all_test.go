package gate_test

import (
	"fmt"
	"math/rand"
	"reflect"
	"slices"
	"strings"
	"testing"

	"lockorder/api"
	"lockorder/edge"
	"lockorder/gate"
	"lockorder/instance"
	"lockorder/machine"
	"lockorder/waits"
)

// subsets returns all sets of n mutexes.
func subsets(n int) [][]int {
	var all [][]int
	for bits := range 1 << n {
		var l []int
		for m := range n {
			if bits&(1<<m) != 0 {
				l = append(l, m)
			}
		}
		all = append(all, l)
	}
	return all
}

func TestAllSmallPrograms(t *testing.T) { // P22.1 to P22.3
	bodies := []string{"lock a; lock b;", "lock b; lock a;", "lock g; lock a; lock b;", "lock g; lock b; lock a;", "lock a; lock g; lock b;", "lock g; lock b; unlock g; lock a;", "if x { lock g; } lock b; lock a;",
		"lock g; lock c[0]; lock a;", "lock g; lock a; lock c[1];", "lock g; lock c[1]; lock c[0];", "lock r; lock g; lock b; lock a;", "lock r; lock a; lock r; lock b;"}
	var count seen
	for x, one := range bodies {
		for y, two := range bodies {
			for _, begin := range []string{"", "lock r; ", "lock r; lock r; "} {
				s := mustRead(t, "mutex a; mutex b; mutex c[2]; rmutex r; mutex g; var x; func main() { go f(); "+begin+one+" } func f() { "+begin+two+" }")
				want, l := s.expected(), s.edges()
				want.compareUngated(t, l, &count)
				if (x+y)%4 == 0 {
					for _, component := range subsets(len(s.unit.Mutexes)) {
						want.compare(t, l, component, &count)
					}
				}
			}
		}
	}
	if count.programs != 432 || count.components < 3600 || count.inside < 2400 || count.loops < 300 || count.gated < 1800 || count.own < 1500 || count.reentrant < 1500 || count.cyclic-count.ungated < 100 || count.large < 30 || count.ungated < 100 || count.halfGated < 25 {
		t.Errorf("%+v", count)
	}
}

// maker makes programs by chance.
type maker struct {
	r     *rand.Rand
	names []string // of the mutexes, as they are written in the current function
}

// name returns a mutex.
func (m maker) name() string { return m.names[m.r.Intn(len(m.names))] }

// call returns the call or the start of a function.
func (m maker) call() string {
	switch m.r.Intn(4) {
	case 0:
		return "g(mutex " + m.name() + "); "
	case 1:
		return "h(); "
	}
	return "f(mutex " + m.name() + ", mutex " + m.name() + "); "
}

// statements returns a list of statements. Most of what is locked is unlocked again.
func (m maker) statements(nested int) string {
	s := ""
	for range m.r.Intn(4 - nested) {
		name := m.name()
		switch k := m.r.Intn(16); {
		case k < 7:
			s += "lock " + name + "; " + m.statements(nested+1) + "unlock " + name + "; "
		case k == 7:
			s += "lock " + name + "; "
		case k == 8 && m.r.Intn(5) == 0:
			s += "unlock " + name + "; "
		case k == 9:
			s += "if x { " + m.statements(nested+1) + "} else { " + m.statements(nested+1) + "} "
		case k == 10:
			s += "while x { x = 0; " + m.statements(nested+1) + "} "
		case k < 13:
			s += m.call()
		case k == 13:
			s += "go " + m.call()
		default:
			s += "x = 1 - x; "
		}
	}
	return s
}

// guarded returns a list of statements in which perhaps a mutex is held that seldom belongs to others.
func (m maker) guarded() string {
	gate := []string{"p", "q", "p"}[m.r.Intn(3)]
	if m.r.Intn(4) == 0 {
		return m.statements(0)
	}
	return "lock " + gate + "; " + m.statements(0) + m.statements(0) + "unlock " + gate + "; "
}

// randomProgram makes the text of a program, in which main begins with some starts.
func randomProgram(r *rand.Rand) string {
	names := []string{"a", "b", "r", "c[x]", "c[1]", "d[0]"}
	names = names[:2+r.Intn(5)]
	m := maker{r, names}
	main := ""
	for range r.Intn(3) {
		main += "go " + m.call()
	}
	main += m.guarded() + m.guarded()
	h := m.guarded()
	m.names = append([]string{"m", "m", "m"}, names...)
	g := m.guarded()
	m.names = append([]string{"m", "m", "k", "k"}, names...)
	return "var x = 1; mutex p; mutex a; mutex b; rmutex r; mutex c[2]; mutex d[3]; rmutex q; func main() { " + main + "} func f(mutex m, mutex k) { " + m.statements(0) + m.statements(0) + "} func g(mutex m) { " + g + "} func h() { " + h + "} "
}

// randomEdges makes a list of edges whose instructions exist, most of them taken from another list.
func (s subject) randomEdges(r *rand.Rand, l []api.Edge) []api.Edge {
	l = slices.Clone(l)
	r.Shuffle(len(l), func(i, j int) { l[i], l[j] = l[j], l[i] })
	l = l[:r.Intn(len(l)+1)]
	for range r.Intn(4) {
		if len(l) > 0 {
			l = append(l, l[r.Intn(len(l))])
		}
	}
	for range r.Intn(3) {
		i := r.Intn(len(s.closure.Instances))
		l = append(l, api.Edge{Held: r.Intn(len(s.unit.Mutexes)), Acquired: r.Intn(len(s.unit.Mutexes)), Instance: i, PC: r.Intn(len(s.closure.Calls[i]))})
	}
	return l
}

// randomComponent makes a list of mutexes, perhaps with repeated ones.
func (s subject) randomComponent(r *rand.Rand) []int {
	component := r.Perm(len(s.unit.Mutexes))[:r.Intn(len(s.unit.Mutexes)+1)]
	for range r.Intn(3) {
		if len(component) > 0 {
			component = append(component, component[r.Intn(len(component))])
		}
	}
	return component
}

func TestRandomPrograms(t *testing.T) { // P22.1 to P22.3
	r := rand.New(rand.NewSource(1))
	var own, other seen
	for range 1500 {
		s := mustRead(t, randomProgram(r))
		want, l := s.expected(), s.edges()
		want.compareUngated(t, l, &own)
		for range 2 {
			some := s.randomEdges(r, l)
			want.compareUngated(t, some, &other)
			want.compare(t, some, s.randomComponent(r), &other)
		}
	}
	if own.cyclic < 900 || own.large < 400 || own.loops < 400 || own.gated < 80 || own.reentrant < 20 || own.ungated < 800 || own.halfGated < 250 {
		t.Errorf("with the edges of package edge: %+v", own)
	}
	if other.inside < 3000 || other.cyclic-other.ungated < 200 || other.large < 400 || other.loops < 900 || other.gated < 600 || other.own < 400 || other.reentrant < 200 || other.ungated < 1200 || other.halfGated < 300 {
		t.Errorf("with other edges: %+v", other)
	}
}

func TestRandomMore(t *testing.T) { // P22.4: edges are added one after the other
	r := rand.New(rand.NewSource(2))
	fewer, shrunk := 0, 0
	for range 300 {
		s := mustRead(t, randomProgram(r))
		l := s.randomEdges(r, s.edges())
		component := s.randomComponent(r)
		l = l[:min(len(l), 12)]
		var before []int
		for n := range len(l) + 1 {
			gates := gate.Gates(s.unit, s.closure, l[:n], component)
			if n > 0 && len(gate.Inside(l[:n-1], component)) > 0 {
				if slices.ContainsFunc(gates, func(m int) bool { return !slices.Contains(before, m) }) {
					t.Fatalf("%.3000s: with one more edge, the gates of %v are %v after %v: %v", s.source, component, gates, before, l[:n])
				}
				fewer++
				shrunk += min(len(before)-len(gates), 1)
			}
			before = gates
		}
	}
	if fewer < 400 || shrunk < 40 {
		t.Errorf("%d edges were added, %d of them with fewer gates", fewer, shrunk)
	}
}

// large returns a program whose closure has nearly as many instances and instructions as one may have, and all mutexes that a program may have. a0 and a1 are held wherever one of the others is locked.
func large() string {
	const part = "while 1 { if 1 { lock m; OTHER(mutex n, mutex m, mutex k, mutex l, mutex p); } if 1 { unlock n; } if 1 { OTHER(mutex n, mutex k, mutex l, mutex p, mutex m); unlock m; } } "
	text := "rmutex a; rmutex b; mutex c[2]; mutex d; mutex e; func main() { lock a0; lock a1; "
	for n := range 7 {
		text = fmt.Sprintf("%s mutex a%d; ", []string{"", "r"}[n%2], n) + text
	}
	text = strings.ReplaceAll(text, "r mutex", "rmutex") + "if 1 { lock a2; lock a3; } f(mutex a, mutex b, mutex c[0], mutex d, mutex e); } "
	for _, names := range [][2]string{{"f", "g"}, {"g", "f"}} {
		text += "func " + names[0] + "(mutex m, mutex n, mutex k, mutex l, mutex p) { " + strings.Repeat(strings.ReplaceAll(part, "OTHER", names[1]), 3) + "} "
	}
	return text
}

func TestLarge(t *testing.T) { // P22.1 to P22.3
	s := mustRead(t, large())
	if n := len(s.closure.Instances); n < 240 || n > api.MaxInstances || len(s.unit.Mutexes) != api.MaxMutexes {
		t.Fatalf("%d instances, %d mutexes", n, len(s.unit.Mutexes))
	}
	if sites := instance.Sites(s.unit, s.closure); sites < 7000 {
		t.Errorf("%d instructions", sites)
	}
	want, l := s.expected(), s.edges()
	var count seen
	want.compareUngated(t, l, &count)
	scalars := slices.DeleteFunc(slices.Clone(l), func(e api.Edge) bool { return e.Held == e.Acquired })
	want.compareUngated(t, scalars, &count)
	if len(l) < 4000 || count.large != 2 || count.loops != 1 || count.gated != 1 || count.ungated != 1 {
		t.Errorf("%d edges, %+v", len(l), count)
	}
	if gates := s.letters(gate.Gates(s.unit, s.closure, scalars, s.numbers("abcde"))); gates != "a1a0" {
		t.Errorf("the gates are %s", gates)
	}
}

func TestLongLists(t *testing.T) { // R1: a component may be as long as the list of the edges
	const n = 200000
	s := threads(t, "lock g; lock a; lock b;")
	l := slices.Repeat([]api.Edge{e(0, 1, 2), e(1, 0, 3), e(2, 2, 0)}, n)
	component := slices.Repeat([]int{6, 5, 4, 3, 1, 0}, n)
	if got := gate.Inside(l, component); len(got) != 2*n || got[0] != l[0] || got[2*n-1] != l[1] {
		t.Errorf("%d edges are inside", len(got))
	}
	if gate.Loop(s.unit, l, component) || s.letters(gate.Gates(s.unit, s.closure, l, component)) != "ag" {
		t.Errorf("Loop, or Gates")
	}
	if got := gate.Ungated(s.unit, s.closure, l); !slices.EqualFunc(got, [][]int{{2}}, slices.Equal) {
		t.Errorf("Ungated = %v", got)
	}
}

// explored counts what the runs of programs have.
type explored struct {
	states, deadlocks int
	guarded           int // programs with a cycle, but none without gates
}

// exploreAll follows all runs without events. None of them has a deadlock if there is a gate of each cycle.
func (s subject) exploreAll(t *testing.T, count *explored) {
	t.Helper()
	l := s.edges()
	safe := len(gate.Ungated(s.unit, s.closure, l)) == 0
	if x := s.expected(); safe && len(x.cyclic(l)) > 0 {
		count.guarded++
	}
	list := []api.State{machine.New(s.unit)}
	known := map[string]bool{}
	for len(list) > 0 {
		state := list[len(list)-1]
		list = list[:len(list)-1]
		count.states++
		for thread := range state.Threads {
			next, moves := machine.Step(s.unit, state, thread)
			if key := fmt.Sprint(next); moves && !known[key] && !s.meetsEvent(state, thread) {
				known[key] = true
				list = append(list, next)
			}
		}
		deadlocked := waits.Deadlocked(s.unit, state)
		// Who locks a scalar again that it holds is in a deadlock of its own, which is another finding.
		if len(deadlocked) == 0 || slices.ContainsFunc(deadlocked, func(thread int) bool { return s.meetsEvent(state, thread) }) {
			continue
		}
		count.deadlocks++
		if safe {
			t.Fatalf("%.3000s: all cycles have gates, but in %v the threads %v are deadlocked", s.source, state, deadlocked)
		}
	}
}

func TestDeadlocks(t *testing.T) { // what the gates are for
	bodies := []string{"lock a; lock b;", "lock g; lock b; lock a; unlock a; unlock b;", "lock g; lock a; unlock g; lock b;", "lock g; lock c[0]; lock c[1];", "lock r; lock g; lock a; lock r; lock b;", "lock r; lock b; lock r; lock a; unlock r;", "lock c[1]; lock c[0];", "if x { lock r; } lock b; lock a; unlock b;"}
	ends := []string{"", "unlock g;", "lock r; lock c[0]; unlock r;"}
	var count explored
	for x, one := range bodies {
		for y, two := range bodies {
			for _, begin := range []string{"", "lock r; "} {
				s := mustRead(t, "mutex a; mutex b; mutex c[2]; rmutex r; mutex g; var x = 1; func main() { go f(); "+begin+one+ends[(x+y)%3]+" } func f() { x = 0; "+begin+two+" }")
				s.exploreAll(t, &count)
			}
		}
	}
	r := rand.New(rand.NewSource(6))
	for range 20 {
		begin := []string{"", "lock r; "}[r.Intn(2)]
		three := "func main() { go f(); go h(); " + begin + bodies[r.Intn(8)] + " } func f() { " + begin + bodies[r.Intn(8)] + " } func h() { " + begin + bodies[r.Intn(8)] + " }"
		mustRead(t, "mutex a; mutex b; mutex c[2]; rmutex r; mutex g; var x; "+three).exploreAll(t, &count)
	}
	if count.states < 4000 || count.deadlocks < 40 || count.guarded < 10 {
		t.Errorf("%+v", count)
	}
}

// arguments are those of one call of each function.
type arguments struct {
	Unit      api.Unit
	Closure   api.Closure
	Edges     []api.Edge
	Component []int
}

// results are what the functions return.
type results struct {
	Inside  []api.Edge
	Loop    bool
	Gates   []int
	Ungated [][]int
}

// call calls all functions.
func (a arguments) call() results {
	return results{
		Inside:  gate.Inside(a.Edges, a.Component),
		Loop:    gate.Loop(a.Unit, a.Edges, a.Component),
		Gates:   gate.Gates(a.Unit, a.Closure, a.Edges, a.Component),
		Ungated: gate.Ungated(a.Unit, a.Closure, a.Edges),
	}
}

// visitItems calls see for every item of every slice in v, as far as the capacities reach, and clears what it has seen if clear is true.
func visitItems(v reflect.Value, see func(item reflect.Value), clear bool) {
	switch v.Kind() {
	case reflect.Struct:
		for i := range v.NumField() {
			visitItems(v.Field(i), see, clear)
		}
	case reflect.Slice:
		whole := v.Slice(0, v.Cap())
		for i := range whole.Len() {
			see(whole.Index(i))
			visitItems(whole.Index(i), see, clear)
			if clear {
				whole.Index(i).SetZero()
			}
		}
	}
}

// checkMemory tests R2 and R3: nothing is changed, kept or shared, and the results are the same again.
func (a arguments) checkMemory(t *testing.T) results {
	t.Helper()
	// A list with room behind it would show what is appended to it.
	n, k := len(a.Edges), len(a.Component)
	a.Edges = append(slices.Clone(a.Edges), api.Edge{Held: 9, Acquired: 9})[:n]
	a.Component = append(slices.Clone(a.Component), -5)[:k]
	text := func() string { return fmt.Sprint(a, a.Edges[:n+1], a.Component[:k+1]) }
	before := text()
	first, second := a.call(), a.call()
	want := fmt.Sprint(second)
	taken := map[uintptr]bool{}
	argument := func(item reflect.Value) { taken[item.Addr().Pointer()] = true }
	result := func(item reflect.Value) {
		if taken[item.Addr().Pointer()] {
			t.Fatalf("a result for %.2000s shares memory", before)
		}
		taken[item.Addr().Pointer()] = true
	}
	visitItems(reflect.ValueOf(&a).Elem(), argument, false)
	visitItems(reflect.ValueOf(&first).Elem(), result, true)
	again := a.call()
	if fmt.Sprint(second) != want || fmt.Sprint(again) != want || text() != before {
		t.Fatalf("the arguments %.2000s have changed, or the results are no longer %s", before, want)
	}
	return second
}

func TestMemory(t *testing.T) { // R2, R3
	r := rand.New(rand.NewSource(3))
	inside, gates, ungated := 0, 0, 0
	for range 400 {
		s := mustRead(t, randomProgram(r))
		l := s.edges()
		component := s.randomComponent(r)
		// The whole list and all mutexes are what a function might return as they are.
		if r.Intn(3) > 0 {
			l = s.randomEdges(r, l)
		} else if r.Intn(2) == 0 {
			component = r.Perm(len(s.unit.Mutexes))
		}
		got := arguments{s.unit, s.closure, l, component}.checkMemory(t)
		inside += min(len(got.Inside)/2, 1)
		gates += min(len(got.Gates), 1)
		ungated += min(len(got.Ungated), 1)
	}
	if inside < 80 || gates < 30 || ungated < 80 {
		t.Errorf("only %d results have several edges inside, %d gates, and %d components without gates", inside, gates, ungated)
	}
}

func TestUnspecified(t *testing.T) { // R1, R2, R6: units that are no code of a program, closures that are none of theirs, edges and components of nothing
	numbers := []int{least, -1, 0, 1, 2, 1 << 40, most}
	var code []api.Instr
	for op := -1; op <= 9; op++ {
		for _, n := range numbers {
			code = append(code, api.Instr{Op: op, Target: n, Place: api.Place{Param: n&1 == 1, Index: n}})
		}
	}
	procs := []api.Proc{{Code: code}, {}, {Locks: most, Code: code[35:]}, {Code: code[:1]}}
	mutexes := []api.Mutex{{}, {Size: least, Reentrant: true}, {Size: most}, {Size: least}}
	var instances []api.Instance
	for _, n := range numbers {
		instances = append(instances, api.Instance{Proc: n}, api.Instance{Proc: n, Locks: numbers})
	}
	calls := [][]int{numbers, nil, slices.Repeat(numbers, 20), slices.Repeat([]int{0}, 70), slices.Repeat([]int{4, 6, 8}, 40), slices.Repeat(numbers, 9), {2}}
	var edges []api.Edge
	for _, n := range numbers {
		for _, k := range numbers {
			for _, at := range numbers {
				edges = append(edges, api.Edge{Held: n, Acquired: k, Instance: at, PC: n}, api.Edge{Held: k, Acquired: k, Instance: n, PC: at})
			}
		}
	}
	lists := [][]api.Edge{nil, edges, edges[300:], edges[100:200]}
	for n := range 40 {
		lists = append(lists, edges[16*n:16*n+2])
	}
	found := map[string]int{}
	for _, u := range []api.Unit{{}, {Procs: procs}, {Mutexes: mutexes}, {Procs: procs, Mutexes: mutexes, Main: least}, {Procs: procs[2:], Mutexes: slices.Repeat(mutexes[1:], 30)}} {
		for _, c := range []api.Closure{{}, {Calls: calls, Roots: numbers}, {Instances: instances}, {Instances: instances, Roots: numbers}, {Instances: instances, Calls: calls, Roots: []int{4, 5, 6, 7, 8, 4}}} {
			for n, l := range lists {
				a := arguments{u, c, l, numbers[n%7:]}
				got := a.call()
				found["inside"] += min(len(got.Inside), 1)
				found["gates"] += min(len(got.Gates), 1)
				found["ungated"] += min(len(got.Ungated), 1)
				if n%4 == 0 {
					a.checkMemory(t)
				}
			}
		}
	}
	if found["inside"] < 400 || found["ungated"] < 100 {
		t.Errorf("%v", found)
	}
}

// wrongEdges are edges whose instructions do not exist in a program.
func wrongEdges(s subject) []api.Edge {
	n := len(s.closure.Instances)
	l := []api.Edge{{Instance: -1}, {Instance: n}, {PC: -1}, {Instance: least, PC: most}, {Instance: most}, {PC: most}}
	for i := range n {
		l = append(l, api.Edge{Instance: i, PC: len(s.closure.Calls[i])})
	}
	for i := range l {
		l[i].Acquired = 1
	}
	return l
}

func TestWrongEdges(t *testing.T) { // R6, as reach.Must is false of what does not exist
	s := mustRead(t, called)
	for _, wrong := range wrongEdges(s) {
		if gates := gate.Gates(s.unit, s.closure, []api.Edge{wrong}, []int{0, 1}); len(gates) > 0 {
			t.Errorf("the gates of %v are %v", wrong, gates)
		}
	}
}

func FuzzGates(f *testing.F) { // P22.1 to P22.4
	f.Add(swapped, []byte{0, 0, 0, 0, 0})
	f.Add(guarded, []byte{0, 0, 0, 1, 1, 1, 0, 2, 2})
	f.Add(recursive, []byte{1, 2, 3, 4, 5, 6, 7, 8, 9, 10})
	f.Add(randomProgram(rand.New(rand.NewSource(5))), []byte{0, 0, 0, 1, 1, 1, 0, 2, 2})
	f.Fuzz(func(t *testing.T, source string, bytes []byte) {
		s, is := read(source)
		if !is || len(s.closure.Instances) > 20 || len(bytes) > 300 || len(s.unit.Mutexes) == 0 {
			return
		}
		var count seen
		want, l := s.expected(), edge.Edges(s.unit, s.closure)
		want.compareUngated(t, l, &count)
		var component []int
		for n, b := range bytes {
			if n%2 == 0 && len(l) > 0 {
				i := int(b) % len(l)
				l = slices.Delete(l, i, i+1)
			} else {
				component = append(component, int(b)%len(s.unit.Mutexes))
			}
		}
		want.compareUngated(t, l, &count)
		want.compare(t, l, component, &count)
	})
}
