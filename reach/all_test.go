package reach_test

import (
	"fmt"
	"math/rand"
	"slices"
	"strings"
	"testing"

	"lockorder/api"
	"lockorder/depth"
	"lockorder/instance"
	"lockorder/reach"
	"lockorder/schedule"
	"lockorder/summary"
	"lockorder/table"
)

func TestAllSmallPrograms(t *testing.T) { // P17.1 to P17.3
	bodies := []string{"", "lock m;", "unlock m;", "return;", "g(mutex m);", "f(mutex m);", "go g(mutex m);", "main();",
		"if 1 { lock m; }", "if 1 { return; }", "if 1 { f(mutex m); } else { unlock m; }", "if 1 { lock m; f(mutex m); unlock m; }",
		"while 1 { lock m; }", "while 1 { g(mutex m); }", "while 1 { unlock m; f(mutex m); return; }"}
	mains := []string{"f(mutex b); g(mutex a);", "lock a; lock b; f(mutex a); f(mutex b);", "g(mutex a); lock b; if 1 { f(mutex b); } go f(mutex a);"}
	var count seen
	for _, one := range bodies {
		for n, two := range bodies {
			for _, begin := range mains {
				s := mustRead(t, "mutex a; rmutex b; func main() { "+begin+" } func f(mutex m) { "+one+two+" } func g(mutex m) { "+[]string{"", "lock m;", "if 1 { unlock m; f(mutex a); }"}[n%3]+" }")
				s.compare(t, &count)
				for m := range 2 {
					s.comparePaths(t, m, 4, &count)
				}
			}
		}
	}
	if count.programs != 15*15*3 || count.kinds[0] < 4000 || count.kinds[1] < 7000 || count.kinds[2] < 6000 || count.kinds[3] < 2000 || count.deep < 2000 || count.mixed < 700 || count.whole < 600 || count.parts < 600 {
		t.Errorf("%+v", count)
	}
}

// maker makes programs by chance.
type maker struct {
	r         *rand.Rand
	mutexes   []string // as they are written where a mutex is named
	functions []int    // the numbers of their parameters, all of which are mutexes; the first one is main
	current   int      // the one that is made
	text      strings.Builder
}

// randomProgram makes the text of a program with at most so many functions beside main.
func randomProgram(r *rand.Rand, functions int) string {
	m := maker{r: r, functions: []int{0}}
	for n := range 1 + r.Intn(3) {
		name := string(rune('a' + n))
		sort := r.Intn(3)
		m.text.WriteString([]string{"mutex " + name, "rmutex " + name, "mutex " + name + "[2]"}[sort] + "; ")
		m.mutexes = append(m.mutexes, name+[]string{"", "", "[x]"}[sort])
	}
	for range r.Intn(functions + 1) {
		m.functions = append(m.functions, r.Intn(3))
	}
	m.text.WriteString("var x; ")
	for n, params := range m.functions {
		m.current = n
		l := []string{"mutex p0", "mutex p1"}[:params]
		m.text.WriteString("func " + functionName(n) + "(" + strings.Join(l, ", ") + ") ")
		m.block(0, 1+r.Intn(4))
	}
	return m.text.String()
}

func functionName(n int) string {
	if n == 0 {
		return "main"
	}
	return fmt.Sprintf("f%d", n)
}

// block adds a block of the current function.
func (m *maker) block(nested, statements int) {
	m.text.WriteString("{ ")
	for range statements {
		m.text.WriteString(m.statement(nested))
		if k := m.r.Intn(8); k < 3 && nested < 2 {
			m.text.WriteString([]string{"if x ", "if 1 - x ", "while x "}[k])
			m.block(nested+1, m.r.Intn(3))
			if k < 2 && m.r.Intn(2) == 0 {
				m.text.WriteString("else ")
				m.block(nested+1, m.r.Intn(3))
			}
		}
	}
	m.text.WriteString("} ")
}

// statement returns a statement without blocks, or more of them.
func (m *maker) statement(nested int) string {
	name := m.mutex()
	switch k := m.r.Intn(14); {
	case k < 2:
		return "lock " + name + "; "
	case k == 2:
		return "unlock " + name + "; "
	case k < 7: // This is what most programs do.
		return "lock " + name + "; " + m.call("", nested) + "unlock " + name + "; "
	case k < 8:
		return m.call("go ", nested)
	case k < 11:
		return m.call("", nested)
	case k < 12 && nested > 0:
		return "return; "
	}
	return "x = 1 - x; "
}

// call returns the call or the start of a function; without a condition it is a later one, so that most recursions end.
func (m *maker) call(word string, nested int) string {
	first := m.current + 1
	if nested > 0 {
		first = 0
	}
	if first == len(m.functions) {
		return "x = 1 - x; "
	}
	n := first + m.r.Intn(len(m.functions)-first)
	var args []string
	for range m.functions[n] {
		args = append(args, "mutex "+m.mutex())
	}
	return word + functionName(n) + "(" + strings.Join(args, ", ") + "); "
}

// mutex returns a parameter or a declared mutex.
func (m *maker) mutex() string {
	params := m.functions[m.current]
	if n := m.r.Intn(params + 2); n < params {
		return fmt.Sprintf("p%d", n)
	}
	return m.mutexes[m.r.Intn(len(m.mutexes))]
}

func TestRandomPrograms(t *testing.T) { // P17.1 to P17.3
	r := rand.New(rand.NewSource(1))
	var count seen
	for range 1000 {
		s, is := read(randomProgram(r, 4))
		if !is { // it has too many instances
			continue
		}
		s.compare(t, &count)
		for m := range s.unit.Mutexes {
			s.definition(t, r, m)
			if len(s.closure.Instances) < 8 {
				s.comparePaths(t, m, 2+r.Intn(mostOpen-1), &count)
			}
		}
	}
	if count.programs < 900 || count.instances < 3000 || count.kinds[0] < 6000 || count.kinds[1] < 9000 || count.kinds[2] < 7000 || count.kinds[3] < 5000 || count.deep < 7000 || count.mixed < 2000 || count.whole < 1000 || count.parts < 700 {
		t.Errorf("%+v", count)
	}
}

// isCall reports whether an instruction of an instance is an InstrCall.
func (s subject) isCall(i, pc int) bool {
	return s.unit.Procs[s.closure.Instances[i].Proc].Code[pc].Op == api.InstrCall
}

// apply returns the sets that follow from these entries.
func (s subject) apply(m int, entries []int) sets {
	of := summary.Of(s.unit, s.closure, m)
	l := s.empty()
	copy(l.entries, entries)
	for i, entry := range entries {
		l.exits[i] = depth.Apply(of[i], entry)
		for pc, relation := range summary.Inner(s.unit, s.closure, m, of, i) {
			l.before[i][pc] = depth.Apply(relation, entry)
		}
	}
	return l
}

// definition tests P17.1 for a mutex as it is written there.
func (s subject) definition(t *testing.T, r *rand.Rand, m int) {
	t.Helper()
	got := s.actual(m)
	if want := s.apply(m, got.entries); !got.related(want, same) {
		t.Fatalf("%s: of mutex %d the sets are %v; want %v", s.text, m, got, want)
	}
	// Entries is a solution, and is contained in others.
	other := make([]int, len(got.entries))
	for i := range other {
		other[i] = r.Intn(depth.Full(s.limit(m))+1) & r.Intn(depth.Full(s.limit(m))+1)
	}
	for _, entries := range [][]int{slices.Clone(got.entries), make([]int, len(other)), other} {
		for s.widen(m, entries) {
		}
		if !slices.EqualFunc(got.entries, entries, within) {
			t.Fatalf("%s: Entries(%d) = %v is not within %v", s.text, m, got.entries, entries)
		}
	}
	if l := slices.Clone(got.entries); s.widen(m, l) {
		t.Fatalf("%s: Entries(%d) = %v, but they must contain %v", s.text, m, got.entries, l)
	}
	s.ends(t, m, got)
}

// widen adds to entries what follows from them, and reports whether it has added anything.
func (s subject) widen(m int, entries []int) bool {
	before := slices.Clone(entries)
	for _, root := range s.closure.Roots {
		entries[root] |= 1
	}
	for i, l := range s.apply(m, before).before {
		for pc, set := range l {
			if s.isCall(i, pc) {
				entries[s.closure.Calls[i][pc]] |= set
			}
		}
	}
	return !slices.Equal(before, entries)
}

// ends tests that the exits are the depths before the returns.
func (s subject) ends(t *testing.T, m int, l sets) {
	t.Helper()
	for i, exit := range l.exits {
		union := 0
		for pc, instr := range s.unit.Procs[s.closure.Instances[i].Proc].Code {
			if instr.Op == api.InstrReturn {
				union |= l.before[i][pc]
			}
		}
		if union != exit {
			t.Fatalf("%s: Exits(%d) = %v, but %s returns with %d", s.text, m, l.exits, s.name(i), union)
		}
	}
}

// run is a run of a program, with the sets of its mutexes.
type run struct {
	subject
	sets   []sets
	strays map[[2]int]bool // the threads that have met an event, and the mutexes of these events

	steps, held, entered, returned, events int
}

// numberOf returns the number of the instance of a frame.
func (x *run) numberOf(f api.Frame) int {
	i := api.Instance{Proc: f.Proc}
	for _, element := range f.Locks {
		i.Locks = append(i.Locks, table.MutexOf(x.unit.Mutexes, element))
	}
	return instance.Find(x.closure, i)
}

// check tests the thread in the state b, before which its state was a.
func (x *run) check(t *testing.T, a, b api.State, thread int) {
	t.Helper()
	var before []api.Frame
	if thread < len(a.Threads) {
		before = a.Threads[thread].Frames
	}
	after := b.Threads[thread].Frames
	for m, l := range x.sets {
		d := table.Depth(x.unit.Mutexes, b.Table, m, thread)
		if d > x.limit(m) && !x.strays[[2]int{thread, m}] {
			x.strays[[2]int{thread, m}] = true
			x.events++
		}
		if x.strays[[2]int{thread, m}] {
			continue
		}
		if len(after) < len(before) {
			x.returned++
			x.contains(t, "Exits", m, l.exits[x.numberOf(before[len(before)-1])], d)
		}
		if len(after) == 0 {
			continue
		}
		i, pc := x.numberOf(after[len(after)-1]), after[len(after)-1].PC
		x.held += min(d, 1)
		x.contains(t, "Before", m, l.before[i][pc], d)
		if len(after) > len(before) {
			x.entered++
			x.contains(t, "Entries", m, l.entries[i], d)
		}
	}
}

// contains tests that a set contains a depth.
func (x *run) contains(t *testing.T, what string, m, set, d int) {
	t.Helper()
	if set>>d&1 == 0 {
		t.Fatalf("%s: %s of mutex %d has %d, but a thread holds it to the depth %d", x.text, what, m, set, d)
	}
}

// follow tests the steps of a run, all of which are possible.
func (x *run) follow(t *testing.T, picks []int) {
	t.Helper()
	x.strays = map[[2]int]bool{}
	states := schedule.Trace(x.unit, picks)
	x.check(t, api.State{}, states[0], 0)
	for n, thread := range picks {
		a, b := states[n], states[n+1]
		if b.Fault != 0 {
			return
		}
		x.steps++
		x.check(t, a, b, thread)
		if len(b.Threads) > len(a.Threads) {
			x.check(t, a, b, len(b.Threads)-1)
		}
	}
}

func TestRuns(t *testing.T) { // P17.1, P17.3: what the threads of runs hold is in the sets until an event
	r := rand.New(rand.NewSource(2))
	var sum run
	for range 2000 {
		s, is := read(randomProgram(r, 4))
		if !is {
			continue
		}
		x := run{subject: s}
		for m := range s.unit.Mutexes {
			x.sets = append(x.sets, s.actual(m))
		}
		for range 3 {
			picks := make([]int, 100)
			for n := range picks {
				picks[n] = r.Intn(1 + r.Intn(3))
			}
			x.follow(t, schedule.Useful(s.unit, picks))
		}
		sum.steps, sum.held, sum.entered, sum.returned, sum.events = sum.steps+x.steps, sum.held+x.held, sum.entered+x.entered, sum.returned+x.returned, sum.events+x.events
	}
	if sum.steps < 80000 || sum.held < 60000 || sum.entered < 30000 || sum.returned < 10000 || sum.events < 100 {
		t.Errorf("%d steps, %d held, %d entered, %d returned, %d events", sum.steps, sum.held, sum.entered, sum.returned, sum.events)
	}
}

// arguments are those of one call of each function.
type arguments struct {
	unit     api.Unit
	closure  api.Closure
	m, i, pc int
}

// results are what the functions return.
type results struct {
	sets      [][]int // Entries and Exits
	before    [][]int
	may, must bool
}

// call calls all functions.
func (a arguments) call() results {
	return results{
		[][]int{reach.Entries(a.unit, a.closure, a.m), reach.Exits(a.unit, a.closure, a.m)},
		reach.Before(a.unit, a.closure, a.m),
		reach.May(a.unit, a.closure, a.m, a.i, a.pc),
		reach.Must(a.unit, a.closure, a.m, a.i, a.pc),
	}
}

// taken has the addresses of lists and of numbers.
type taken map[any]bool

// add adds the addresses in a list, as far as the capacities reach, and reports whether they are all new. It overwrites the numbers if spoil is true.
func (x taken) add(l [][]int, spoil bool) bool {
	size := len(x)
	items := 0
	for i := range cap(l) {
		row := &l[:cap(l)][i]
		x[row] = true
		for j := range cap(*row) {
			number := &(*row)[:cap(*row)][j]
			x[number] = true
			if spoil {
				*number = -7
			}
		}
		items += 1 + cap(*row)
	}
	return len(x) == size+items
}

// checkMemory tests R2 and R3: nothing is changed, kept or shared, and the results are the same again.
func (a arguments) checkMemory(t *testing.T) {
	t.Helper()
	// A list with room behind it would show what is appended to it.
	a.closure.Roots = append(slices.Grow(slices.Clone(a.closure.Roots), 8), -5, -5, -5, -5)[:len(a.closure.Roots)]
	before := fmt.Sprintf("%+v", a) + fmt.Sprint(a.closure.Roots[:len(a.closure.Roots)+4])
	first, second := a.call(), a.call()
	want := fmt.Sprint(second)
	x := taken{}
	x.add(a.closure.Calls, false)
	x.add([][]int{a.closure.Roots, a.unit.Globals}, false)
	for _, i := range a.closure.Instances {
		x.add([][]int{i.Locks}, false)
	}
	if !x.add(first.sets, true) || !x.add(first.before, true) {
		t.Fatalf("a result for %.2000s shares memory", before)
	}
	after := fmt.Sprintf("%+v", a) + fmt.Sprint(a.closure.Roots[:len(a.closure.Roots)+4])
	if fmt.Sprint(second) != want || fmt.Sprint(a.call()) != want || after != before {
		t.Fatalf("the arguments %.2000s have become %.2000s, or the results are no longer %s", before, after, want)
	}
}

func TestMemory(t *testing.T) { // R2, R3
	r := rand.New(rand.NewSource(3))
	for range 300 {
		s, is := read(randomProgram(r, 3))
		if !is {
			continue
		}
		for m := range s.unit.Mutexes {
			i := r.Intn(len(s.closure.Instances))
			arguments{s.unit, s.closure, m, i, r.Intn(len(s.closure.Calls[i]))}.checkMemory(t)
		}
	}
}

// large returns a program whose closure has nearly as many instances and instructions as one may have. Most of its instances call each other.
func large() string {
	const part = "while 1 { if 1 { lock m; OTHER(mutex n, mutex m, mutex k, mutex l, mutex p); } if 1 { unlock n; } if 1 { OTHER(mutex n, mutex k, mutex l, mutex p, mutex m); unlock m; } } "
	text := "rmutex a; rmutex b; mutex c[2]; mutex d; rmutex e; func main() { f(mutex a, mutex b, mutex c[0], mutex d, mutex e); } "
	for _, names := range [][2]string{{"f", "g"}, {"g", "f"}} {
		text += "func " + names[0] + "(mutex m, mutex n, mutex k, mutex l, mutex p) { " + strings.Repeat(strings.ReplaceAll(part, "OTHER", names[1]), 3) + "} "
	}
	return text
}

func TestLarge(t *testing.T) { // P17.1 to P17.3
	s := mustRead(t, large())
	if n := len(s.closure.Instances); n < 240 || n > api.MaxInstances {
		t.Fatalf("%d instances", n)
	}
	r := rand.New(rand.NewSource(4))
	for m := range s.unit.Mutexes {
		got := s.actual(m)
		if want := s.reading(m).sets(s); !got.related(want, same) {
			t.Fatalf("of mutex %d the sets are %v; want %v", m, got, want)
		}
		for range 5 {
			i := r.Intn(len(got.before))
			pc := r.Intn(len(got.before[i]))
			set := got.before[i][pc]
			if s.may(m, i, pc) != (set > 1) || s.must(m, i, pc) != (set > 1 && set&1 == 0) {
				t.Errorf("May and Must of mutex %d before instruction %d of %s, which has %d", m, pc, s.name(i), set)
			}
		}
	}
}

func TestUnspecified(t *testing.T) { // R1, R2, R6: units that are no code of a program, closures that are none of theirs, and numbers of nothing
	numbers := []int{least, -1, 0, 1, 2, 1 << 40, most}
	var code []api.Instr
	for op := -1; op <= 9; op++ {
		for _, n := range numbers {
			code = append(code, api.Instr{Op: op, Target: n, Place: api.Place{Param: n&1 == 1, Index: n}})
		}
	}
	procs := []api.Proc{{Code: code}, {}, {Locks: most, Code: code[20:]}, {Code: code[:1]}}
	mutexes := []api.Mutex{{}, {Size: least, Reentrant: true}, {Size: most}}
	var instances []api.Instance
	for _, n := range numbers {
		instances = append(instances, api.Instance{Proc: n}, api.Instance{Proc: n, Locks: numbers})
	}
	calls := [][]int{numbers, nil, slices.Repeat(numbers, 20), slices.Repeat([]int{0}, 70), slices.Repeat([]int{4, 6, 8}, 40), slices.Repeat(numbers, 9), {2}, slices.Repeat([]int{5, 2}, 40)}
	roots := slices.Concat(numbers, []int{13, 12, 11, 10, 9, 8, 7, 6, 5, 4, 3, 14, 4}) // many, in no order
	for _, u := range []api.Unit{{}, {Procs: procs}, {Mutexes: mutexes}, {Procs: procs, Mutexes: mutexes, Main: least}, {Procs: procs[2:], Mutexes: mutexes[1:]}} {
		for _, c := range []api.Closure{{}, {Calls: calls, Roots: numbers}, {Instances: instances}, {Instances: instances, Roots: roots}, {Instances: instances, Calls: calls, Roots: roots}, {Instances: instances, Calls: calls[:5], Roots: []int{8, 5, 8}}, {Instances: instances[4:9], Calls: calls[2:], Roots: roots}} {
			for n, m := range numbers {
				for _, i := range numbers {
					arguments{u, c, m, i, numbers[n]}.checkMemory(t)
					arguments{u, c, m, i, n}.checkMemory(t)
				}
			}
		}
	}
}

func FuzzBefore(f *testing.F) { // P17.1 to P17.3
	f.Add(ring(), int64(1))
	f.Add("mutex a; rmutex b; mutex c[4]; func f(n, mutex m) { if n { lock m; f(n, mutex b); } else { while n { unlock a; return; } } lock c[n]; } func main() { go f(1, mutex c[0]); f(2, mutex a); }", int64(2))
	f.Fuzz(func(t *testing.T, text string, seed int64) {
		s, is := read(text)
		if !is || len(s.closure.Instances) > 20 {
			return
		}
		var count seen
		s.compare(t, &count)
		r := rand.New(rand.NewSource(seed))
		for m := range s.unit.Mutexes {
			s.definition(t, r, m)
			if len(s.closure.Instances) < 8 {
				s.comparePaths(t, m, 3, &count)
			}
		}
	})
}
