package summary_test

import (
	"fmt"
	"math/rand"
	"slices"
	"strings"
	"testing"

	"lockorder/api"
	"lockorder/depth"
	"lockorder/schedule"
	"lockorder/summary"
	"lockorder/table"
)

func TestAllSmallPrograms(t *testing.T) { // P16.1, P16.2
	all := []string{"", "lock m;", "unlock m;", "return;", "f(mutex m);", "g(mutex m);", "go g(mutex m);",
		"if 1 { lock m; }", "if 1 { return; }", "if 1 { f(mutex m); } else { unlock m; }", "if 1 { lock m; g(mutex m); }",
		"while 1 { lock m; }", "while 1 { f(mutex m); }", "while 1 { unlock m; g(mutex m); return; }"}
	few := []string{"", "lock m;", "if 1 { f(mutex m); unlock m; }", "if 1 { lock m; g(mutex a); f(mutex m); }"}
	var count seen
	for _, one := range all {
		for n, two := range all {
			for _, other := range few {
				s := mustRead(t, "mutex a; rmutex b; func main() { f(mutex b); g(mutex a); } func g(mutex m) { "+other+" } func f(mutex m) { "+one+two+" }")
				s.compare(t, &count)
				s.comparePaths(t, 0, 1+n%3, &count)
				s.comparePaths(t, 1, 1+n%3, &count)
			}
		}
	}
	if count.programs != 14*14*4 || count.rounds[1] < 150 || count.rounds[2] < 700 || count.rounds[3] < 300 || count.rounds[4] < 50 || count.rounds[5] < 120 || count.pairs < 50000 || count.paths < 6000 {
		t.Errorf("%+v", count)
	}
}

// maker makes programs by chance.
type maker struct {
	r         *rand.Rand
	mutexes   []string // as they are written where a mutex is named
	functions []int    // the numbers of their parameters, all of which are mutexes; the first one is main
	current   int      // the one that is made
	text      strings.Builder
}

// randomProgram makes the text of a program with at most so many functions beside main.
func randomProgram(r *rand.Rand, functions int) string {
	m := maker{r: r, functions: []int{0}}
	for n := range 1 + r.Intn(3) {
		name := string(rune('a' + n))
		sort := r.Intn(3)
		m.text.WriteString([]string{"mutex " + name, "rmutex " + name, "mutex " + name + "[2]"}[sort] + "; ")
		m.mutexes = append(m.mutexes, name+[]string{"", "", "[x]"}[sort])
	}
	for range r.Intn(functions + 1) {
		m.functions = append(m.functions, r.Intn(4))
	}
	m.text.WriteString(fmt.Sprintf("var x = %d; ", r.Intn(2)))
	for n, params := range m.functions {
		m.current = n
		l := []string{"mutex p0", "mutex p1", "mutex p2"}[:params]
		m.text.WriteString("func " + functionName(n) + "(" + strings.Join(l, ", ") + ") ")
		m.block(0, 1+r.Intn(4))
	}
	return m.text.String()
}

func functionName(n int) string {
	if n == 0 {
		return "main"
	}
	return fmt.Sprintf("f%d", n)
}

// block adds a block of the current function.
func (m *maker) block(nested, statements int) {
	m.text.WriteString("{ ")
	for range statements {
		name := m.mutex()
		switch k := m.r.Intn(16); {
		case k < 3:
			m.text.WriteString("lock " + name + "; ")
		case k < 5:
			m.text.WriteString("unlock " + name + "; ")
		case k < 8: // This is what most programs do.
			m.text.WriteString("lock " + name + "; " + m.call("", nested) + "unlock " + name + "; ")
		case k < 9:
			m.text.WriteString(m.call("go ", nested))
		case k < 11:
			m.text.WriteString(m.call("", nested))
		case k < 14 && nested < 3:
			m.nest(nested)
		case k < 15 && nested > 0:
			m.text.WriteString("return; ")
		default:
			m.text.WriteString("x = 1 - x; ")
		}
	}
	m.text.WriteString("} ")
}

// nest adds a statement with blocks.
func (m *maker) nest(nested int) {
	k := m.r.Intn(3)
	m.text.WriteString([]string{"if x ", "if 1 - x ", "while x "}[k])
	m.block(nested+1, m.r.Intn(4))
	if k < 2 && m.r.Intn(2) == 0 {
		m.text.WriteString("else ")
		m.block(nested+1, m.r.Intn(4))
	}
}

// call returns the call or the start of a function; without a condition it is a later one, so that most recursions end.
func (m *maker) call(word string, nested int) string {
	least := m.current + 1
	if nested > 0 {
		least = 0
	}
	if least == len(m.functions) {
		return "x = 1 - x; "
	}
	n := least + m.r.Intn(len(m.functions)-least)
	var args []string
	for range m.functions[n] {
		args = append(args, "mutex "+m.mutex())
	}
	return word + functionName(n) + "(" + strings.Join(args, ", ") + "); "
}

// mutex returns a parameter or a declared mutex.
func (m *maker) mutex() string {
	params := m.functions[m.current]
	if n := m.r.Intn(params + 2); n < params {
		return fmt.Sprintf("p%d", n)
	}
	return m.mutexes[m.r.Intn(len(m.mutexes))]
}

func TestRandomPrograms(t *testing.T) { // P16.1 to P16.3
	r := rand.New(rand.NewSource(1))
	var count seen
	for range 1500 {
		s, is := read(randomProgram(r, 4))
		if !is { // it has too many instances
			continue
		}
		s.compare(t, &count)
		for m := range s.unit.Mutexes {
			s.consequence(t, r, m)
			s.compareInner(t, m, s.randomSummaries(r, m), r.Intn(len(s.closure.Instances)))
			if len(s.closure.Instances) < 8 {
				s.comparePaths(t, m, 1+r.Intn(2), &count)
			}
		}
	}
	if count.programs < 1400 || count.instances < 3500 || count.rounds[2] < 700 || count.rounds[3] < 300 || count.rounds[4] < 100 || count.rounds[5] < 200 || count.pairs < 80000 || count.paths < 6000 {
		t.Errorf("%+v", count)
	}
}

// randomSummaries returns a list of any relations.
func (s subject) randomSummaries(r *rand.Rand, m int) [][]int {
	limit, density := s.limit(m), r.Intn(3)
	var all [][]int
	for range s.closure.Instances {
		l := make([]int, limit+1)
		for d := range l {
			l[d] = r.Intn(depth.Full(limit) + 1)
			for range density {
				l[d] &= r.Intn(depth.Full(limit) + 1)
			}
		}
		all = append(all, l)
	}
	return all
}

// exits returns the exits of Inner with these summaries.
func (s subject) exits(m int, summaries [][]int) [][]int {
	var all [][]int
	for i, instance := range s.closure.Instances {
		exit := make([]int, s.limit(m)+1)
		for pc, relation := range s.inner(m, summaries, i) {
			if s.unit.Procs[instance.Proc].Code[pc].Op == api.InstrReturn {
				exit = depth.Union(exit, relation)
			}
		}
		all = append(all, exit)
	}
	return all
}

// within reports whether each relation of a is contained in that of b.
func within(a, b [][]int) bool { return slices.EqualFunc(a, b, depth.Within) }

// consequence tests P16.3 for a mutex.
func (s subject) consequence(t *testing.T, r *rand.Rand, m int) {
	t.Helper()
	of := s.of(m)
	if l := s.exits(m, of); !equal(l, of) {
		t.Fatalf("%s: Of(%d) = %v, but the exits are %v", s.text, m, of, l)
	}
	before, reached := s.rounds(m, 0), false
	for n := 1; n < 30; n++ {
		after := s.rounds(m, n)
		if !within(before, after) || !within(after, of) || reached && !equal(after, of) {
			t.Fatalf("%s: Rounds(%d, %d) = %v after %v; Of is %v", s.text, m, n, after, before, of)
		}
		before, reached = after, equal(before, after)
	}
	// The greatest solution.
	greatest := slices.Repeat([][]int{slices.Repeat([]int{depth.Full(s.limit(m))}, s.limit(m)+1)}, len(of))
	for l := s.exits(m, greatest); !equal(l, greatest); l = s.exits(m, greatest) {
		greatest = l
	}
	// A list that contains its exits.
	closed := s.randomSummaries(r, m)
	for l := s.exits(m, closed); !within(l, closed); l = s.exits(m, closed) {
		for i := range closed {
			closed[i] = depth.Union(closed[i], l[i])
		}
	}
	if !within(of, greatest) || !within(of, closed) {
		t.Fatalf("%s: Of(%d) = %v is not within %v and %v", s.text, m, of, greatest, closed)
	}
}

// activation is a frame of a run: its instance, and for each mutex the depth at its beginning, or -1 if an event has occurred since then.
type activation struct {
	instance int
	begin    []int
}

// run is a run of a program, with the summaries of its mutexes.
type run struct {
	subject
	summaries [][][]int
	inside    [][][][]int // what Inner returns, for each mutex and instance
	threads   [][]activation

	steps, returns, events, recursive int
}

func (s subject) newRun() *run {
	x := &run{subject: s}
	for m := range s.unit.Mutexes {
		of := s.of(m)
		var inner [][][]int
		for i := range of {
			inner = append(inner, s.inner(m, of, i))
		}
		x.summaries, x.inside = append(x.summaries, of), append(x.inside, inner)
	}
	return x
}

// depths returns the depths to which a thread holds the mutexes.
func (x *run) depths(s api.State, thread int) []int {
	var l []int
	for m := range x.unit.Mutexes {
		l = append(l, table.Depth(x.unit.Mutexes, s.Table, m, thread))
	}
	return l
}

// enter adds what a thread has called or been started with.
func (x *run) enter(s api.State, thread int, callee int) {
	begin := x.depths(s, thread)
	for m := range begin {
		if begin[m] > x.limit(m) {
			begin[m] = -1
		}
	}
	if slices.ContainsFunc(x.threads[thread], func(a activation) bool { return a.instance == callee }) {
		x.recursive++
	}
	x.threads[thread] = append(x.threads[thread], activation{callee, begin})
}

// step tests a step of a thread from the state a to the state b.
func (x *run) step(t *testing.T, a, b api.State, thread int) {
	t.Helper()
	x.steps++
	before, after := a.Threads[thread].Frames, b.Threads[thread].Frames
	top := x.threads[thread][len(before)-1]
	callee := x.closure.Calls[top.instance][before[len(before)-1].PC]
	switch {
	case len(after) > len(before):
		x.enter(b, thread, callee)
	case len(b.Threads) > len(a.Threads):
		x.threads = append(x.threads, nil)
		x.enter(b, len(x.threads)-1, callee)
	case len(after) < len(before):
		x.threads[thread] = x.threads[thread][:len(after)]
		x.returns++
		for m, d := range x.depths(b, thread) {
			if begin := top.begin[m]; begin >= 0 && x.summaries[m][top.instance][begin]>>d&1 == 0 {
				t.Fatalf("%s: Of(%d) = %v, but %s begins with %d and ends with %d", x.text, m, x.summaries[m], x.name(top.instance), begin, d)
			}
		}
	}
	for m, d := range x.depths(b, thread) {
		for _, a := range x.threads[thread] {
			if d > x.limit(m) && a.begin[m] >= 0 {
				a.begin[m] = -1
				x.events++
			}
		}
	}
	x.check(t, b, thread)
}

// check tests where a thread is.
func (x *run) check(t *testing.T, s api.State, thread int) {
	t.Helper()
	frames := s.Threads[thread].Frames
	if len(frames) == 0 {
		return
	}
	top, pc := x.threads[thread][len(frames)-1], frames[len(frames)-1].PC
	for m, d := range x.depths(s, thread) {
		if begin := top.begin[m]; begin >= 0 && x.inside[m][top.instance][pc][begin]>>d&1 == 0 {
			t.Fatalf("%s: Inner(%d, %s) = %v, but %d is followed by %d before %d", x.text, m, x.name(top.instance), x.inside[m][top.instance], begin, d, pc)
		}
	}
}

func TestRuns(t *testing.T) { // P16.1, P16.2: the activations of runs are among what the summaries say
	r := rand.New(rand.NewSource(2))
	var steps, returns, events, recursive int
	for range 3000 {
		s, is := read(randomProgram(r, 4))
		if !is {
			continue
		}
		x := s.newRun()
		for range 3 {
			picks := make([]int, 100)
			for n := range picks {
				picks[n] = r.Intn(1 + r.Intn(3))
			}
			x.follow(t, schedule.Useful(s.unit, picks))
		}
		steps, returns, events, recursive = steps+x.steps, returns+x.returns, events+x.events, recursive+x.recursive
	}
	if steps < 60000 || returns < 6000 || events < 1000 || recursive < 2000 {
		t.Error(steps, returns, events, recursive)
	}
}

// follow tests the steps of a run, all of which are possible.
func (x *run) follow(t *testing.T, picks []int) {
	t.Helper()
	states := schedule.Trace(x.unit, picks)
	x.threads = [][]activation{nil}
	x.enter(states[0], 0, 0)
	for n, thread := range picks {
		if states[n+1].Fault == 0 {
			x.step(t, states[n], states[n+1], thread)
		}
	}
}

// arguments are those of one call of each function.
type arguments struct {
	unit      api.Unit
	closure   api.Closure
	summaries [][]int
	m, n, i   int
}

// call calls all functions.
func (a arguments) call() [][][]int {
	return [][][]int{
		summary.Inner(a.unit, a.closure, a.m, a.summaries, a.i),
		summary.Of(a.unit, a.closure, a.m),
		summary.Rounds(a.unit, a.closure, a.m, a.n),
	}
}

// taken has the addresses of lists and of numbers.
type taken map[any]bool

// add adds the addresses in a list, as far as the capacities reach, and reports whether they are all new. It overwrites the numbers if spoil is true.
func (x taken) add(l [][]int, spoil bool) bool {
	size := len(x)
	items := 0
	for i := range cap(l) {
		row := &l[:cap(l)][i]
		x[row] = true
		for j := range cap(*row) {
			number := &(*row)[:cap(*row)][j]
			x[number] = true
			if spoil {
				*number = -7
			}
		}
		items += 1 + cap(*row)
	}
	return len(x) == size+items
}

// checkMemory tests R2 and R3: nothing is changed, kept or shared, and the results are the same again.
func (a arguments) checkMemory(t *testing.T) {
	t.Helper()
	before := fmt.Sprintf("%+v", a)
	first, second := a.call(), a.call()
	want := fmt.Sprint(second)
	x := taken{}
	x.add(a.summaries, false)
	x.add(a.closure.Calls, false)
	x.add([][]int{a.closure.Roots, a.unit.Globals}, false)
	for _, i := range a.closure.Instances {
		x.add([][]int{i.Locks}, false)
	}
	for _, l := range first {
		if !x.add(l, true) {
			t.Fatalf("a result for %.2000s shares memory", before)
		}
	}
	if fmt.Sprint(second) != want || fmt.Sprint(a.call()) != want || fmt.Sprintf("%+v", a) != before {
		t.Fatalf("the arguments %.2000s have become %+v, or the results are no longer %s", before, a, want)
	}
}

func TestMemory(t *testing.T) { // R2, R3
	r := rand.New(rand.NewSource(3))
	for range 300 {
		s, is := read(randomProgram(r, 3))
		if !is {
			continue
		}
		for m := range s.unit.Mutexes {
			a := arguments{s.unit, s.closure, s.randomSummaries(r, m), m, r.Intn(4), r.Intn(len(s.closure.Instances))}
			a.checkMemory(t)
		}
	}
}

// large returns a program whose closure has nearly as many instances and instructions as one may have. Most of its instances call each other.
func large() string {
	const part = "while 1 { if 1 { lock m; OTHER(mutex n, mutex m, mutex k, mutex l, mutex p); } if 1 { unlock n; } if 1 { OTHER(mutex n, mutex k, mutex l, mutex p, mutex m); unlock m; } } "
	text := "rmutex a; rmutex b; mutex c[2]; mutex d; rmutex e; func main() { f(mutex a, mutex b, mutex c[0], mutex d, mutex e); } "
	for _, names := range [][2]string{{"f", "g"}, {"g", "f"}} {
		text += "func " + names[0] + "(mutex m, mutex n, mutex k, mutex l, mutex p) { " + strings.Repeat(strings.ReplaceAll(part, "OTHER", names[1]), 3) + "} "
	}
	return text
}

func TestLarge(t *testing.T) { // P16.1 to P16.3
	s := mustRead(t, large())
	if n := len(s.closure.Instances); n < 240 || n > api.MaxInstances {
		t.Fatalf("%d instances", n)
	}
	var count seen
	s.compare(t, &count)
}

func TestUnspecified(t *testing.T) { // R1, R2, R6: units that are no code of a program, closures that are none of theirs, and numbers of nothing
	numbers := []int{least, -1, 0, 1, 2, 1 << 40, most}
	var code []api.Instr
	for op := -1; op <= 9; op++ {
		for _, n := range numbers {
			code = append(code, api.Instr{Op: op, Target: n, Place: api.Place{Param: n&1 == 1, Index: n}})
		}
	}
	procs := []api.Proc{{Code: code}, {}, {Locks: most, Code: code[20:]}, {Code: code[:1]}}
	mutexes := []api.Mutex{{}, {Size: least, Reentrant: true}, {Size: most}}
	var instances []api.Instance
	for _, n := range numbers {
		instances = append(instances, api.Instance{Proc: n}, api.Instance{Proc: n, Locks: numbers})
	}
	calls := [][]int{numbers, nil, slices.Repeat(numbers, 20), slices.Repeat([]int{0}, 70), slices.Repeat([]int{4, 6, 8}, 40), slices.Repeat(numbers, 9), {2}, slices.Repeat([]int{5, 2}, 40)}
	summaries := [][][]int{nil, {nil, nil}, {numbers, {}, {511}, numbers, {-1, -1, -1, -1, -1, -1, -1, -1, -1, -1, -1}, make([]int, 100)}}
	for _, u := range []api.Unit{{}, {Procs: procs}, {Mutexes: mutexes}, {Procs: procs, Mutexes: mutexes, Main: least}, {Procs: procs[2:], Mutexes: mutexes[1:]}} {
		for _, c := range []api.Closure{{}, {Calls: calls, Roots: numbers}, {Instances: instances}, {Instances: instances, Calls: calls}, {Instances: instances[4:9], Calls: calls[2:], Roots: numbers}} {
			for n, m := range numbers {
				for _, l := range summaries {
					for i := range len(c.Instances) + 2 {
						arguments{u, c, l, m, numbers[n], i}.checkMemory(t)
					}
				}
				arguments{u, c, summaries[2], 1, n, m}.checkMemory(t)
			}
		}
	}
}

func FuzzOf(f *testing.F) { // P16.1 to P16.3
	f.Add(ring(), int64(1))
	f.Add("mutex a; rmutex b; mutex c[4]; func f(n, mutex m) { if n { lock m; f(n, mutex b); } else { while n { unlock a; return; } } lock c[n]; } func main() { go f(1, mutex c[0]); f(2, mutex a); }", int64(2))
	f.Fuzz(func(t *testing.T, text string, seed int64) {
		s, is := read(text)
		if !is || len(s.closure.Instances) > 20 {
			return
		}
		var count seen
		s.compare(t, &count)
		r := rand.New(rand.NewSource(seed))
		for m := range s.unit.Mutexes {
			s.consequence(t, r, m)
			for i := range s.closure.Instances {
				s.compareInner(t, m, s.randomSummaries(r, m), i)
			}
		}
	})
}
