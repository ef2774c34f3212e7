package edge_test

import (
	"fmt"
	"math/rand"
	"reflect"
	"slices"
	"strings"
	"testing"

	"lockorder/api"
	"lockorder/edge"
	"lockorder/instance"
	"lockorder/machine"
	"lockorder/schedule"
)

func TestAllSmallPrograms(t *testing.T) { // P20.1, P20.2
	statements := []string{"", "lock m;", "unlock m;", "lock k;", "lock b; unlock b;", "return;", "g(mutex m, mutex k);", "f(mutex k, mutex m);", "go g(mutex k, mutex m);",
		"if 1 { lock m; }", "lock r; lock m;", "if 1 { return; } else { unlock k; }", "while 1 { lock k; }", "while 1 { g(mutex m, mutex m); unlock m; }"}
	mains := []string{"f(mutex a, mutex r);", "f(mutex r, mutex c[0]); g(mutex c[1], mutex a);", "lock a; f(mutex c[0], mutex c[1]); lock r; f(mutex a, mutex b);"}
	ends := []string{"", "lock m;", "if 1 { lock k; unlock m; }", "lock k; if 1 { f(mutex k, mutex b); } unlock k;"}
	var count seen
	for x, one := range statements {
		for y, two := range statements {
			for _, begin := range mains {
				s := mustRead(t, "mutex a; rmutex r; mutex c[2]; mutex b; func main() { "+begin+" } func f(mutex m, mutex k) { "+one+two+" } func g(mutex m, mutex k) { "+ends[(x+y)%len(ends)]+" }")
				s.compare(t, 2, &count)
			}
		}
	}
	if count.programs != 14*14*3 || count.edges < 1300 || count.pairs < 1000 || count.self < 100 || count.reentrant < 200 || count.again < 30 || count.scalar < 200 || count.may < 4000 || count.must < 3000 {
		t.Errorf("%+v", count)
	}
}

// maker makes programs by chance.
type maker struct {
	r     *rand.Rand
	names []string // of the mutexes, as they are written in the current function
}

// name returns a mutex.
func (m maker) name() string { return m.names[m.r.Intn(len(m.names))] }

// call returns the call or the start of a function.
func (m maker) call() string {
	switch m.r.Intn(4) {
	case 0:
		return "g(mutex " + m.name() + "); "
	case 1:
		return "h(); "
	}
	return "f(mutex " + m.name() + ", mutex " + m.name() + "); "
}

// statements returns a list of statements. Most of what is locked is unlocked again.
func (m maker) statements(nested int) string {
	s := ""
	for range m.r.Intn(4 - nested) {
		name := m.name()
		switch k := m.r.Intn(16); {
		case k < 6:
			s += "lock " + name + "; " + m.statements(nested+1) + "unlock " + name + "; "
		case k == 6:
			s += "lock " + name + "; "
		case k == 7 && m.r.Intn(3) == 0:
			s += "unlock " + name + "; "
		case k == 8:
			s += "if x { " + m.statements(nested+1) + "} else { " + m.statements(nested+1) + "} "
		case k == 9:
			s += "while x { x = 0; " + m.statements(nested+1) + "} "
		case k == 10 && nested > 0:
			s += "if x { return; } "
		case k < 13:
			s += m.call()
		case k == 13:
			s += "go " + m.call()
		default:
			s += "x = 1 - x; "
		}
	}
	return s
}

// randomProgram makes the text of a program, in which main begins with some starts.
func randomProgram(r *rand.Rand) string {
	declared := []string{"a", "b", "r", "c[x]", "c[1]", "d[0]"}
	declared = declared[:2+r.Intn(5)]
	m := maker{r, declared}
	main := ""
	for range r.Intn(4) {
		main += "go " + m.call()
	}
	main += m.statements(0)
	h := m.statements(0)
	m.names = append([]string{"m", "m", "m"}, declared...)
	g := m.statements(0)
	m.names = append([]string{"m", "m", "k", "k"}, declared...)
	return "var x = 1; mutex a; mutex b; rmutex r; mutex c[2]; mutex d[3]; func main() { " + main + "} func f(mutex m, mutex k) { " + m.statements(0) + m.statements(0) + "} func g(mutex m) { " + g + "} func h() { " + h + "} "
}

func TestRandomPrograms(t *testing.T) { // P20.1, P20.2
	r := rand.New(rand.NewSource(1))
	var count seen
	for range 2000 {
		mustRead(t, randomProgram(r)).compare(t, 20, &count)
	}
	if count.instances < 8000 || count.edges < 5000 || count.pairs < 2500 || count.self < 700 || count.reentrant < 500 || count.again < 100 || count.scalar < 1500 || count.may < 1200 || count.must < 900 {
		t.Errorf("%+v", count)
	}
}

// large returns a program whose closure has nearly as many instances and instructions as one may have, and all mutexes that a program may have.
func large() string {
	const part = "while 1 { if 1 { lock m; OTHER(mutex n, mutex m, mutex k, mutex l, mutex p); } if 1 { unlock n; } if 1 { OTHER(mutex n, mutex k, mutex l, mutex p, mutex m); unlock m; } } "
	text := "rmutex a; rmutex b; mutex c[2]; mutex d; rmutex e; func main() { "
	for n := range 7 {
		text = fmt.Sprintf("%s mutex a%d; ", []string{"", "r"}[n%2], n) + text + fmt.Sprintf("if 1 { lock a%d; } ", n)
	}
	text = strings.ReplaceAll(text, "r mutex", "rmutex") + "f(mutex a, mutex b, mutex c[0], mutex d, mutex e); } "
	for _, names := range [][2]string{{"f", "g"}, {"g", "f"}} {
		text += "func " + names[0] + "(mutex m, mutex n, mutex k, mutex l, mutex p) { " + strings.Repeat(strings.ReplaceAll(part, "OTHER", names[1]), 3) + "} "
	}
	return text
}

func TestLarge(t *testing.T) { // P20.1, P20.2
	s := mustRead(t, large())
	if n := len(s.closure.Instances); n < 240 || n > api.MaxInstances || len(s.unit.Mutexes) != api.MaxMutexes {
		t.Fatalf("%d instances, %d mutexes", n, len(s.unit.Mutexes))
	}
	var count seen
	s.compare(t, instance.Sites(s.unit, s.closure)/5, &count)
	if count.edges < 8000 || count.pairs < 70 || count.may < 50 {
		t.Errorf("%+v", count)
	}
}

func TestRandomRuns(t *testing.T) { // P20.3
	r := rand.New(rand.NewSource(2))
	var count waiting
	for range 2000 {
		s := mustRead(t, randomProgram(r))
		orders := s.orders()
		for range 3 {
			s.follow(t, orders, s.randomPicks(r, 120), &count)
		}
	}
	if count.states < 100000 || count.threads < 20000 || count.edges < 1500 || count.self < 50 || count.events < 500 {
		t.Errorf("%+v", count)
	}
}

// randomPicks makes a schedule by chance in which threads often carry out several steps, and returns those of its picks that are possible.
func (s subject) randomPicks(r *rand.Rand, n int) []int {
	picks := make([]int, n)
	for i := range picks {
		if i == 0 || r.Intn(3) == 0 {
			picks[i] = r.Intn(1 + r.Intn(5))
		} else {
			picks[i] = picks[i-1]
		}
	}
	return schedule.Useful(s.unit, picks)
}

// follow tests the states of a run until an event. All of its picks are possible.
func (s subject) follow(t *testing.T, orders map[order]bool, picks []int, count *waiting) {
	t.Helper()
	for n, state := range schedule.Trace(s.unit, picks) {
		s.compareWaiting(t, orders, state, count)
		if n < len(picks) && s.meetsEvent(state, picks[n]) {
			count.events++
			return
		}
	}
}

func TestAllSchedules(t *testing.T) { // P20.3: all states that can be reached without events
	statements := []string{"", "lock m;", "unlock m;", "lock k; lock m;", "lock a; lock k;", "lock m; unlock k;", "while x { lock k; x = 0; }", "if x { lock m; g(mutex k); unlock m; }", "g(mutex c[1]); x = 0;", "unlock r; lock m;"}
	mains := []string{"go f(mutex a, mutex r); f(mutex r, mutex a);", "go f(mutex c[0], mutex c[1]); f(mutex c[x], mutex r);"}
	var count waiting
	for _, one := range statements {
		for _, two := range statements {
			for _, begin := range mains {
				s := mustRead(t, "mutex a; rmutex r; mutex c[2]; var x = 1; func main() { "+begin+" } func f(mutex m, mutex k) { lock m; "+one+two+" } func g(mutex m) { lock m; lock a; unlock m; unlock a; }")
				s.exploreAll(t, &count)
			}
		}
	}
	if count.states < 4000 || count.threads < 800 || count.edges < 400 || count.self < 100 || count.events < 150 {
		t.Errorf("%+v", count)
	}
}

// exploreAll tests all states that can be reached without events.
func (s subject) exploreAll(t *testing.T, count *waiting) {
	t.Helper()
	orders := s.orders()
	list := []api.State{machine.New(s.unit)}
	known := map[string]bool{}
	for len(list) > 0 {
		state := list[len(list)-1]
		list = list[:len(list)-1]
		s.compareWaiting(t, orders, state, count)
		for thread := range state.Threads {
			next, moves := machine.Step(s.unit, state, thread)
			if key := fmt.Sprint(next); moves && !known[key] {
				known[key] = true
				if s.meetsEvent(state, thread) {
					count.events++
				} else {
					list = append(list, next)
				}
			}
		}
	}
}

// arguments are those of one call of each function.
type arguments struct {
	Unit    api.Unit
	Closure api.Closure
	Edges   []api.Edge
	I, PC   int
}

// results are what the functions return.
type results struct {
	Edges     []api.Edge
	Pairs     [][]int
	May, Must []int
}

// call calls all functions.
func (a arguments) call() results {
	x := results{Edges: edge.Edges(a.Unit, a.Closure), Pairs: edge.Pairs(a.Edges)}
	x.May, x.Must = edge.Held(a.Unit, a.Closure, a.I, a.PC)
	return x
}

// visitItems calls see for every item of every slice in v, as far as the capacities reach, and clears what it has seen if clear is true.
func visitItems(v reflect.Value, see func(item reflect.Value), clear bool) {
	switch v.Kind() {
	case reflect.Struct:
		for i := range v.NumField() {
			visitItems(v.Field(i), see, clear)
		}
	case reflect.Slice:
		whole := v.Slice(0, v.Cap())
		for i := range whole.Len() {
			see(whole.Index(i))
			visitItems(whole.Index(i), see, clear)
			if clear {
				whole.Index(i).SetZero()
			}
		}
	}
}

// checkMemory tests R2 and R3: nothing is changed, kept or shared, and the results are the same again.
func (a arguments) checkMemory(t *testing.T) results {
	t.Helper()
	// A list with room behind it would show what is appended to it.
	n, k := len(a.Edges), len(a.Closure.Roots)
	a.Edges = append(slices.Clone(a.Edges), api.Edge{Held: 9, Acquired: 9})[:n]
	a.Closure.Roots = append(slices.Clone(a.Closure.Roots), -5)[:k]
	text := func() string { return fmt.Sprint(a, a.Edges[:n+1], a.Closure.Roots[:k+1]) }
	before := text()
	first, second := a.call(), a.call()
	want := fmt.Sprint(second)
	taken := map[uintptr]bool{}
	argument := func(item reflect.Value) { taken[item.Addr().Pointer()] = true }
	result := func(item reflect.Value) {
		if taken[item.Addr().Pointer()] {
			t.Fatalf("a result for %.2000s shares memory", before)
		}
		taken[item.Addr().Pointer()] = true
	}
	visitItems(reflect.ValueOf(&a).Elem(), argument, false)
	visitItems(reflect.ValueOf(&first).Elem(), result, true)
	again := a.call()
	if fmt.Sprint(second) != want || fmt.Sprint(again) != want || text() != before {
		t.Fatalf("the arguments %.2000s have changed, or the results are no longer %s", before, want)
	}
	return second
}

func TestMemory(t *testing.T) { // R2, R3
	r := rand.New(rand.NewSource(3))
	edges, pairs, held := 0, 0, 0
	for range 400 {
		s := mustRead(t, randomProgram(r))
		l := s.edges()
		r.Shuffle(len(l), func(i, j int) { l[i], l[j] = l[j], l[i] })
		i := r.Intn(len(s.closure.Instances))
		got := arguments{s.unit, s.closure, l, i, r.Intn(len(s.closure.Calls[i]))}.checkMemory(t)
		edges += min(len(got.Edges)/2, 1)
		pairs += min(len(got.Pairs)/2, 1)
		held += min(len(got.May), 1)
	}
	if edges < 120 || pairs < 100 || held < 80 {
		t.Errorf("only %d results have several edges, %d several pairs, and %d a mutex that may be held", edges, pairs, held)
	}
}

func TestRandomPairs(t *testing.T) { // P20.2: any edges
	r := rand.New(rand.NewSource(4))
	for range 2000 {
		least, count := -r.Intn(3), 1+r.Intn(5)
		var l []api.Edge
		for range r.Intn(12) {
			l = append(l, api.Edge{Held: least + r.Intn(count), Acquired: least + r.Intn(count), Instance: r.Intn(3), PC: r.Intn(3)})
		}
		var want [][]int
		for a := least; a < least+count; a++ {
			for b := least; b < least+count; b++ {
				if slices.ContainsFunc(l, func(e api.Edge) bool { return e.Held == a && e.Acquired == b }) {
					want = append(want, []int{a, b})
				}
			}
		}
		if got := edge.Pairs(l); !slices.EqualFunc(got, want, slices.Equal) {
			t.Fatalf("Pairs(%v) = %v; want %v", l, got, want)
		}
	}
}

func TestUnspecified(t *testing.T) { // R1, R2, R6: units that are no code of a program, closures that are none of theirs, and numbers of nothing
	numbers := []int{least, -1, 0, 1, 2, 1 << 40, most}
	var code []api.Instr
	for op := -1; op <= 9; op++ {
		for _, n := range numbers {
			code = append(code, api.Instr{Op: op, Target: n, Place: api.Place{Param: n&1 == 1, Index: n}})
		}
	}
	procs := []api.Proc{{Code: code}, {}, {Locks: most, Code: code[35:]}, {Code: code[:1]}}
	mutexes := []api.Mutex{{}, {Size: least, Reentrant: true}, {Size: most}, {Size: least}}
	var instances []api.Instance
	for _, n := range numbers {
		instances = append(instances, api.Instance{Proc: n}, api.Instance{Proc: n, Locks: numbers})
	}
	calls := [][]int{numbers, nil, slices.Repeat(numbers, 20), slices.Repeat([]int{0}, 70), slices.Repeat([]int{4, 6, 8}, 40), slices.Repeat(numbers, 9), {2}, slices.Repeat([]int{5, 2}, 40)}
	var edges []api.Edge
	for _, n := range numbers {
		for _, k := range numbers {
			edges = append(edges, api.Edge{Held: k, Acquired: n, Instance: n, PC: k})
		}
	}
	found := 0
	for _, u := range []api.Unit{{}, {Procs: procs}, {Mutexes: mutexes}, {Procs: procs, Mutexes: mutexes, Main: least}, {Procs: procs[2:], Mutexes: mutexes[1:]}} {
		for _, c := range []api.Closure{{}, {Calls: calls, Roots: numbers}, {Instances: instances}, {Instances: instances, Roots: numbers}, {Instances: instances, Calls: calls, Roots: []int{13, 12, 11, 10, 9, 8, 7, 6, 5, 4, 3, 14, 4}}, {Instances: instances[4:9], Calls: calls[2:], Roots: numbers}} {
			for _, i := range numbers {
				for pc, n := range numbers {
					found += len(arguments{u, c, edges[pc:], i, n}.call().Edges)
				}
				found += len(arguments{u, c, edges, i, 2}.checkMemory(t).Edges)
			}
		}
	}
	if found < 300 {
		t.Errorf("only %d edges", found)
	}
}

func FuzzEdges(f *testing.F) { // P20.1 to P20.3
	f.Add(nested, []byte{0, 0, 0, 0, 0})
	f.Add(started, []byte{0, 0, 0, 1, 1, 1, 0, 2, 2})
	f.Add(forever, make([]byte, 20))
	f.Add(randomProgram(rand.New(rand.NewSource(5))), []byte{0, 0, 0, 1, 1, 1, 0, 2, 2})
	f.Fuzz(func(t *testing.T, source string, bytes []byte) {
		s, is := read(source)
		if !is || len(s.closure.Instances) > 20 || len(bytes) > 300 {
			return
		}
		var count seen
		s.compare(t, 1, &count)
		var picks []int
		for _, b := range bytes {
			picks = append(picks, int(b%8))
		}
		var runs waiting
		s.follow(t, s.orders(), schedule.Useful(s.unit, picks), &runs)
	})
}
