package model_test

import (
	"fmt"
	"math/rand"
	"reflect"
	"slices"
	"strings"
	"testing"

	"lockorder/api"
	"lockorder/instance"
	"lockorder/model"
	"lockorder/schedule"
	"lockorder/table"
)

func TestAllSmallPrograms(t *testing.T) { // P18.1 to P18.4
	statements := []string{"", "lock m;", "unlock m;", "lock a; unlock a;", "return;", "x = 1;", "g(mutex m);", "f(mutex m);", "go g(mutex m);", "main();",
		"if x { lock m; }", "if x { return; }", "if x { f(mutex m); } else { unlock m; }", "while x { lock m; }", "while x { unlock m; f(mutex m); return; }"}
	mains := []string{"f(mutex b);", "lock a; go f(mutex a); f(mutex c[0]);"}
	var count seen
	for _, one := range statements {
		for _, two := range statements {
			for _, begin := range mains {
				s := mustRead(t, "mutex a; rmutex b; mutex c[3]; var x; func main() { "+begin+" } func f(mutex m) { "+one+two+" } func g(mutex m) { if x { lock m; } }")
				s.compare(t, 5, &count)
				for m := range s.unit.Mutexes {
					s.comparePaths(t, m, 4, &count)
				}
			}
		}
	}
	if count.programs != 450 || count.paths < 20000 || count.many < 50 || count.endless < 300 || slices.Min(count.following[:]) < 2000 || count.high < 5000 || count.calls < 100000 || count.ends < 1000 || count.whole < 700 || count.parts < 400 {
		t.Errorf("%+v", count)
	}
}

// statements are those of which randomProgram makes functions. In main there is no parameter k, nor m.
var statements = []string{
	"lock a; ", "unlock a; ", "lock r; ", "lock r; lock r; ", "unlock r; ", "lock c[x]; ", "unlock c[1]; ", "lock m; ", "lock k; ", "unlock m; ", "unlock k; ",
	"lock a; f(mutex m, mutex r); unlock a; ", "lock m; g(mutex k); unlock m; ", "lock k; g(mutex m); unlock k; ",
	"f(mutex a, mutex m); ", "f(mutex k, mutex m); ", "f(mutex c[0], mutex r); ", "g(mutex m); ", "g(mutex a); ", "h(); ", "main(); ",
	"go f(mutex m, mutex k); ", "go g(mutex c[1]); ", "go h(); ", "x = 1 - x; ", "return; ",
}

// randomBlock makes a block by chance.
func randomBlock(r *rand.Rand, nested int) string {
	s := "{ "
	for range r.Intn(5 - nested) {
		switch k := r.Intn(10); {
		case k > 3 || nested == 2:
			s += statements[r.Intn(len(statements))]
		case k == 0:
			s += "while x " + randomBlock(r, nested+1)
		case k == 1:
			s += "if x " + randomBlock(r, nested+1) + "else " + randomBlock(r, nested+1)
		default:
			s += "if x " + randomBlock(r, nested+1)
		}
	}
	return s + "} "
}

// randomProgram makes the text of a program by chance.
func randomProgram(r *rand.Rand) string {
	declared := strings.NewReplacer(" m;", " r;", " k;", " a;", "mutex m", "mutex c[x]", "mutex k", "mutex r")
	closed := func() string { return declared.Replace(randomBlock(r, 0)) }
	return "var x = 1; mutex a; rmutex r; mutex c[2]; func f(mutex m, mutex k) " + randomBlock(r, 0) + "func g(mutex m) " + strings.ReplaceAll(strings.ReplaceAll(randomBlock(r, 0), " k;", " m;"), "mutex k", "mutex m") +
		"func h() " + closed() + "func main() " + closed()
}

func TestRandomPrograms(t *testing.T) { // P18.1 to P18.4
	r := rand.New(rand.NewSource(1))
	var count seen
	for range 350 {
		s := mustRead(t, randomProgram(r))
		s.compare(t, 3+r.Intn(4), &count)
		for m := range s.unit.Mutexes {
			s.comparePaths(t, m, 1+r.Intn(5), &count)
		}
	}
	if count.programs != 350 || count.paths < 20000 || count.many < 150 || count.endless < 100 || slices.Min(count.following[:]) < 4000 || count.high < 10000 || count.calls < 80000 || count.ends < 800 || count.whole < 400 || count.parts < 300 {
		t.Errorf("%+v", count)
	}
}

// project returns the configuration of a thread for the mutex m.
func (s subject) project(state api.State, thread, m int) api.Config {
	x := api.Config{Depth: table.Depth(s.unit.Mutexes, state.Table, m, thread)}
	for _, f := range state.Threads[thread].Frames {
		i := api.Instance{Proc: f.Proc}
		for _, element := range f.Locks {
			i.Locks = append(i.Locks, table.MutexOf(s.unit.Mutexes, element))
		}
		x.Stack = append(x.Stack, api.Point{Instance: instance.Find(s.closure, i), PC: f.PC})
	}
	return x
}

// isBegin reports whether a thread with this configuration begins in a root.
func (s subject) isBegin(x api.Config) bool {
	return slices.ContainsFunc(s.closure.Roots, func(root int) bool { return model.Same(x, model.Begin(s.closure, root)) })
}

// checkStep tests the step of a thread that leads from the state a to the state b, for the mutex m, and reports whether the step has met no event.
func (s subject) checkStep(t *testing.T, a, b api.State, thread, m int) bool {
	t.Helper()
	x, y := s.project(a, thread, m), s.project(b, thread, m)
	if x.Depth > s.limit(m) || y.Depth > s.limit(m) {
		return false
	}
	if !slices.ContainsFunc(s.steps(m, x), func(z api.Config) bool { return model.Same(y, z) }) {
		t.Fatalf("%s: for mutex %d, %s follows on %s in a run", s.source, m, s.text(y), s.text(x))
	}
	if n := len(a.Threads); len(b.Threads) > n && !s.isBegin(s.project(b, n, m)) {
		t.Fatalf("%s: for mutex %d, a thread begins with %s", s.source, m, s.text(s.project(b, n, m)))
	}
	return true
}

func TestRuns(t *testing.T) { // P18.1: what the threads of runs do is what the model does, until an event
	r := rand.New(rand.NewSource(2))
	steps, events := 0, 0
	for range 1500 {
		s := mustRead(t, randomProgram(r))
		picks := make([]int, 150)
		for n := range picks {
			picks[n] = r.Intn(1 + r.Intn(4))
		}
		picks = schedule.Useful(s.unit, picks)
		states := schedule.Trace(s.unit, picks)
		for m := range s.unit.Mutexes {
			if x := s.project(states[0], 0, m); !model.Same(x, model.Begin(s.closure, 0)) {
				t.Fatalf("%s: a run begins with %s", s.source, s.text(x))
			}
			for n, thread := range picks {
				if states[n+1].Fault != 0 {
					break
				}
				if s.checkStep(t, states[n], states[n+1], thread, m) {
					steps++
				} else {
					events++
				}
			}
		}
	}
	if steps < 50000 || events < 1000 {
		t.Errorf("%d steps without an event, and %d others", steps, events)
	}
}

// large returns a program whose closure has nearly as many instances and instructions as one may have.
func large() string {
	const part = "while x { if x { lock m; OTHER(mutex n, mutex m, mutex k, mutex l, mutex p); } if x { unlock n; } if x { OTHER(mutex n, mutex k, mutex l, mutex p, mutex m); unlock m; } } "
	text := "var x; rmutex a; rmutex b; mutex c[2]; mutex d; rmutex e; func main() { f(mutex a, mutex b, mutex c[0], mutex d, mutex e); } "
	for _, names := range [][2]string{{"f", "g"}, {"g", "f"}} {
		text += "func " + names[0] + "(mutex m, mutex n, mutex k, mutex l, mutex p) { " + strings.Repeat(strings.ReplaceAll(part, "OTHER", names[1]), 3) + "} "
	}
	return text
}

func TestLarge(t *testing.T) { // P18.1 to P18.4
	s := mustRead(t, large())
	if n := len(s.closure.Instances); n < 240 || n > api.MaxInstances {
		t.Fatalf("%d instances", n)
	}
	var count seen
	for m := range s.unit.Mutexes {
		l := s.visit(m, most, most)
		if want := s.byRounds(m, 100)[:500]; !slices.Equal(s.texts(l), want) {
			t.Fatalf("for mutex %d there are %q; want %q", m, s.texts(l), want)
		}
		s.compareConfigs(t, m, l[:20], &count)
	}
}

// arguments are those of one call of each function.
type arguments struct {
	Unit        api.Unit
	Closure     api.Closure
	X, Y        api.Config
	M           int
	Steps, Most int
}

// results are what the functions return.
type results struct {
	Begin         api.Config
	After         []api.Config
	Visited       []api.Config
	Same, Covered bool
}

// call calls all functions.
func (a arguments) call() results {
	return results{
		model.Begin(a.Closure, a.M),
		model.Steps(a.Unit, a.Closure, a.M, a.X),
		model.Visit(a.Unit, a.Closure, a.M, a.Steps, a.Most),
		model.Same(a.X, a.Y),
		model.Covered(a.Unit, a.Closure, a.M, a.X),
	}
}

// visitItems calls see for every item of every slice in v, as far as the capacities reach, and clears what it has seen if clear is true.
func visitItems(v reflect.Value, see func(item reflect.Value), clear bool) {
	switch v.Kind() {
	case reflect.Struct:
		for i := range v.NumField() {
			visitItems(v.Field(i), see, clear)
		}
	case reflect.Slice:
		whole := v.Slice(0, v.Cap())
		for i := range whole.Len() {
			see(whole.Index(i))
			visitItems(whole.Index(i), see, clear)
			if clear {
				whole.Index(i).SetZero()
			}
		}
	}
}

// roomy returns a copy of a list with room behind it, which would show what is appended to it.
func roomy(l []api.Point) []api.Point {
	spare := api.Point{Instance: -9, PC: -9}
	return append(slices.Clone(l), spare, spare)[:len(l)]
}

// checkMemory tests R2 and R3: nothing is changed, kept or shared, and the results are the same again.
func (a arguments) checkMemory(t *testing.T) results {
	t.Helper()
	a.X.Stack, a.Y.Stack = roomy(a.X.Stack), roomy(a.Y.Stack)
	before := fmt.Sprint(a, a.X.Stack[:cap(a.X.Stack)], a.Y.Stack[:cap(a.Y.Stack)])
	first, second := a.call(), a.call()
	want := fmt.Sprint(second)
	taken := map[uintptr]bool{}
	argument := func(item reflect.Value) { taken[item.Addr().Pointer()] = true }
	result := func(item reflect.Value) {
		if taken[item.Addr().Pointer()] {
			t.Fatalf("a result for %.2000s shares memory", before)
		}
		taken[item.Addr().Pointer()] = true
	}
	visitItems(reflect.ValueOf(&a).Elem(), argument, false)
	visitItems(reflect.ValueOf(&first).Elem(), result, true)
	again := a.call()
	if fmt.Sprint(second) != want || fmt.Sprint(again) != want || fmt.Sprint(a, a.X.Stack[:cap(a.X.Stack)], a.Y.Stack[:cap(a.Y.Stack)]) != before {
		t.Fatalf("the arguments %.2000s have changed, or the results are no longer %s", before, want)
	}
	return second
}

func TestMemory(t *testing.T) { // R2, R3
	r := rand.New(rand.NewSource(3))
	branches := 0
	for range 300 {
		s := mustRead(t, randomProgram(r))
		for m := range s.unit.Mutexes {
			l := s.visit(m, 20, 100)
			x, y := l[r.Intn(len(l))], l[r.Intn(len(l))]
			if len(arguments{s.unit, s.closure, x, y, m, r.Intn(15), r.Intn(40)}.checkMemory(t).After) > 1 {
				branches++
			}
		}
	}
	if branches < 50 {
		t.Errorf("only %d configurations on which more than one follows", branches)
	}
}

func TestUnspecified(t *testing.T) { // R1, R2, R6: units that are no code of a program, closures that are none of theirs, and points that do not exist
	numbers := []int{least, -1, 0, 1, 2, 8, 1 << 40, most}
	var code []api.Instr
	for op := -1; op <= 9; op++ {
		for _, n := range numbers {
			code = append(code, api.Instr{Op: op, Target: n, Place: api.Place{Param: n&1 == 1, Index: n}})
		}
	}
	procs := []api.Proc{{Code: code}, {}, {Locks: most, Code: code[20:]}, {Code: code[24:25]}}
	mutexes := []api.Mutex{{}, {Size: least, Reentrant: true}, {Size: most}}
	var instances []api.Instance
	var points []api.Point
	for _, n := range numbers {
		instances = append(instances, api.Instance{Proc: n}, api.Instance{Proc: n, Locks: numbers})
		for i := range 16 {
			points = append(points, api.Point{Instance: n, PC: n}, api.Point{Instance: i, PC: n}, api.Point{Instance: n, PC: i * 7}, api.Point{Instance: i, PC: n + 40})
		}
	}
	calls := [][]int{numbers, nil, slices.Repeat(numbers, 20), slices.Repeat([]int{0}, 70), slices.Repeat([]int{4, 6, 8}, 40), slices.Repeat(numbers, 9), {2}, slices.Repeat([]int{5, 2}, 40)}
	for _, u := range []api.Unit{{}, {Procs: procs}, {Mutexes: mutexes}, {Procs: procs, Mutexes: mutexes, Main: least}, {Procs: procs[2:], Mutexes: mutexes[1:]}} {
		for _, c := range []api.Closure{{}, {Calls: calls, Roots: numbers}, {Instances: instances}, {Instances: instances, Roots: []int{5, 4, 4, 7}}, {Instances: instances, Calls: calls, Roots: slices.Concat(numbers, []int{9, 7, 5, 3, 4, 6, 8})}, {Instances: instances[4:9], Calls: calls[2:], Roots: []int{3, 2, 1}}} {
			for n, at := range points {
				m := numbers[n%len(numbers)]
				x := api.Config{Depth: numbers[n/3%len(numbers)], Stack: []api.Point{{Instance: m, PC: n}, at}}
				if n%3 == 0 {
					x.Stack = x.Stack[1:]
				}
				got := arguments{u, c, x, x, m, numbers[n/5%len(numbers)], numbers[n/2%len(numbers)]}.checkMemory(t)
				if len(got.Visited) > 500 || len(got.After) > 2 || !got.Same {
					t.Fatalf("on %v there are %d results, after which come %d", x, len(got.Visited), len(got.After))
				}
			}
		}
	}
}

func TestNoPoint(t *testing.T) { // R1: nothing follows where there is no instruction, and no depth is covered there
	s := mustRead(t, "mutex a; func f() { lock a; } func main() { f(); }")
	numbers := []int{least, -1, 0, 1, 2, 3, 1 << 40, most}
	for _, i := range numbers {
		for _, pc := range numbers {
			want := i >= 0 && i <= 1 && pc >= 0 && pc <= 1
			x := api.Config{Stack: []api.Point{{}, {Instance: i, PC: pc}}}
			if n := len(s.steps(0, x)); (n > 0) != want {
				t.Errorf("on %v follow %d", x, n)
			}
			x.Depth = pc & 1 // as main calls f, which locks a
			if s.covered(0, x) != want {
				t.Errorf("%v is covered: %v", x, !want)
			}
		}
	}
	for _, m := range numbers {
		if m != 0 && s.covered(m, api.Config{Stack: []api.Point{{}}}) {
			t.Errorf("mutex %d has depths", m)
		}
	}
	for _, d := range []int{least, -1, 2, 64, 1 << 40, most} {
		if l := s.steps(0, api.Config{Depth: d, Stack: []api.Point{{Instance: 1}}}); len(l) > 0 {
			t.Errorf("on the depth %d follows %v", d, l)
		}
	}
}

func FuzzVisit(f *testing.F) { // P18.1 to P18.4
	f.Add(large(), 0)
	f.Add(sample, 2)
	f.Add(growing, 100)
	f.Fuzz(func(t *testing.T, source string, steps int) {
		s, is := read(source)
		if !is || len(s.closure.Instances) > 20 {
			return
		}
		var count seen
		s.compare(t, 3, &count)
		for m := range s.unit.Mutexes {
			s.compareVisit(t, m, steps, s.byRounds(m, steps))
			s.comparePaths(t, m, 3, &count)
		}
	})
}
