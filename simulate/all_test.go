package simulate_test

import (
	"fmt"
	"math/rand"
	"reflect"
	"slices"
	"strings"
	"testing"

	"lockorder/api"
	"lockorder/explore"
	"lockorder/machine"
	"lockorder/model"
	"lockorder/schedule"
	"lockorder/simulate"
)

func TestAllSmallPrograms(t *testing.T) { // P19.1 to P19.4: all states that can be reached with some steps
	statements := []string{"", "lock m;", "unlock m;", "lock k; unlock k;", "lock m; lock k; lock m;", "return;", "x = 1 - x;", "g(mutex m, mutex k);", "f(mutex k, mutex m);", "go g(mutex k, mutex m);", "if x { lock m; } else { unlock k; }", "while x { lock k; }"}
	mains := []string{"f(mutex b, mutex c[1]); f(mutex c[x], mutex b);", "lock a; go f(mutex a, mutex c[x]); f(mutex c[0], mutex a);"}
	var count seen
	for _, one := range statements {
		for _, two := range statements {
			for _, begin := range mains {
				s := mustRead(t, "mutex a; rmutex b; mutex c[2]; var x = 1; func main() { "+begin+" } func f(mutex m, mutex k) { "+one+two+" } func g(mutex m, mutex k) { if x { lock m; } x = 0; }")
				states, _ := explore.States(s.unit, 60, 100)
				for _, state := range states {
					s.compare(t, state, &count)
				}
			}
		}
	}
	if count.states < 8000 || count.none < 50000 || count.open < 20000 || count.ended < 3000 || count.high < 100 || count.steps < 40000 || count.idle < 15000 || count.faults < 150 || count.unheld < 150 || count.self < 200 {
		t.Errorf("%+v", count)
	}
}

// statements are those of which randomProgram makes functions. In main there is no parameter k, nor m.
var statements = []string{
	"lock a; ", "unlock a; ", "lock r; ", "unlock r; ", "lock c[x]; ", "unlock c[1]; ", "lock m; ", "lock k; ", "unlock m; ", "unlock k; ",
	"lock a; x = 1 - x; unlock a; ", "lock m; f(mutex k, mutex m); unlock m; ", "lock k; g(mutex m); unlock k; ",
	"lock r; lock r; lock r; lock r; lock r; ", "unlock r; unlock r; unlock r; ", "while y < 10 { lock d[y]; y = y + 1; } ", "while y { y = y - 1; unlock d[y]; } ", "lock d[y % 10]; ",
	"f(mutex a, mutex m); ", "f(mutex k, mutex m); ", "f(mutex c[0], mutex r); ", "g(mutex m); ", "g(mutex d[x]); ", "h(); ", "main(); ",
	"go f(mutex m, mutex k); ", "go g(mutex c[1]); ", "go h(); ", "x = 1 - x; ", "return; ",
}

// randomBlock makes a block by chance.
func randomBlock(r *rand.Rand, nested int) string {
	s := "{ "
	for range r.Intn(5 - nested) {
		switch k := r.Intn(10); {
		case k > 3 || nested == 2:
			s += statements[r.Intn(len(statements))]
		case k == 0:
			s += "while x " + randomBlock(r, nested+1)
		case k == 1:
			s += "if x " + randomBlock(r, nested+1) + "else " + randomBlock(r, nested+1)
		default:
			s += "if x " + randomBlock(r, nested+1)
		}
	}
	return s + "} "
}

// randomProgram makes the text of a program by chance.
func randomProgram(r *rand.Rand) string {
	declared := strings.NewReplacer(" m;", " r;", " k;", " a;", "mutex m", "mutex c[x]", "mutex k", "mutex r")
	closed := func() string { return declared.Replace(randomBlock(r, 0)) }
	return "var x = 1; var y; mutex a; rmutex r; mutex c[2]; mutex d[10]; func f(mutex m, mutex k) " + randomBlock(r, 0) + "func g(mutex m) " + strings.ReplaceAll(strings.ReplaceAll(randomBlock(r, 0), " k;", " m;"), "mutex k", "mutex m") +
		"func h() " + closed() + "func main() " + closed()
}

// randomPicks makes a schedule by chance in which threads often carry out several steps, and returns those of its picks that are possible.
func (s subject) randomPicks(r *rand.Rand, n int) []int {
	picks := make([]int, n)
	for i := range picks {
		if i == 0 || r.Intn(3) == 0 {
			picks[i] = r.Intn(1 + r.Intn(5))
		} else {
			picks[i] = picks[i-1]
		}
	}
	return schedule.Useful(s.unit, picks)
}

func TestRandomRuns(t *testing.T) { // P19.1 to P19.4
	r := rand.New(rand.NewSource(1))
	var count seen
	for range 3000 {
		s := mustRead(t, randomProgram(r))
		picks := s.randomPicks(r, 150)
		states := schedule.Trace(s.unit, picks)
		for m := range s.unit.Mutexes {
			s.comparePaths(t, states, picks, m, &count)
		}
		for n, state := range states {
			if n%5 == 0 || s.event(state, r.Intn(len(state.Threads))) != "" {
				s.compare(t, state, &count)
			}
		}
	}
	if count.states < 12000 || count.open < 20000 || count.ended < 5000 || count.high < 3000 || count.above < 1500 || count.steps < 50000 || count.idle < 20000 || count.faults < 1000 || count.unheld < 1000 || count.self < 150 || count.over < 1000 || count.covered < 300000 {
		t.Errorf("%+v", count)
	}
}

// large returns a program whose closure has nearly as many instances and instructions as one may have, and whose threads call and start one another.
func large() string {
	const part = "x = x + 1; if x % 3 { go OTHER(mutex n, mutex k, mutex l, mutex p, mutex m); } if x % 4 == 0 { lock m; } if x % 5 { OTHER(mutex n, mutex m, mutex k, mutex l, mutex p); } if x % 7 == 5 { unlock m; } "
	text := "var x; rmutex a; rmutex b; rmutex c; mutex d[64]; rmutex e; func main() { f(mutex a, mutex b, mutex c, mutex d[x], mutex e); } "
	for _, names := range [][2]string{{"f", "g"}, {"g", "f"}} {
		text += "func " + names[0] + "(mutex m, mutex n, mutex k, mutex l, mutex p) { " + strings.Repeat(strings.ReplaceAll(part, "OTHER", names[1]), 2) + "} "
	}
	return text
}

func TestLarge(t *testing.T) { // P19.1 to P19.4
	s := mustRead(t, large())
	if n := len(s.closure.Instances); n < 240 || n > api.MaxInstances {
		t.Fatalf("%d instances", n)
	}
	r := rand.New(rand.NewSource(2))
	var count seen
	threads := 0
	for range 5 {
		state := machine.New(s.unit)
		for state.Fault == 0 {
			if r.Intn(50) == 0 {
				s.compare(t, state, &count)
			}
			threads = max(threads, len(state.Threads))
			state, _ = machine.Step(s.unit, state, r.Intn(len(state.Threads)))
		}
		s.compare(t, state, &count)
	}
	if threads != api.MaxThreads || count.open < 500 || count.steps < 500 {
		t.Errorf("%d threads, %+v", threads, count)
	}
}

func TestDeepRecursion(t *testing.T) { // P19.1, P19.3: a thread with many frames
	s := mustRead(t, "mutex c[3]; rmutex r; func f(mutex m) { f(mutex m); } func main() { lock r; f(mutex c[1]); }")
	state, _ := schedule.Run(s.unit, make([]int, 1002))
	want := "1 main():2" + strings.Repeat(" f(c):1", 1000) + " f(c):0"
	if got := s.project(state, 0, 1); got != want {
		t.Errorf("the configuration is %.200q", got)
	}
	if !s.follows(state, 0, 1) || !s.follows(state, 0, 0) || s.event(state, 0) != "" {
		t.Error("the step does not follow")
	}
}

// arguments are those of one call of each function.
type arguments struct {
	Unit      api.Unit
	Closure   api.Closure
	State     api.State
	Thread, M int
}

// results are what the functions return.
type results struct {
	Config     api.Config
	Is         bool
	Kind, Lock int
	Follows    bool
}

// call calls all functions.
func (a arguments) call() results {
	var x results
	x.Config, x.Is = simulate.Project(a.Unit, a.Closure, a.State, a.Thread, a.M)
	x.Kind, x.Lock = simulate.Event(a.Unit, a.Closure, a.State, a.Thread)
	x.Follows = simulate.Follows(a.Unit, a.Closure, a.State, a.Thread, a.M)
	return x
}

// visitItems calls see for every item of every slice in v, as far as the capacities reach, and clears what it has seen if clear is true.
func visitItems(v reflect.Value, see func(item reflect.Value), clear bool) {
	switch v.Kind() {
	case reflect.Struct:
		for i := range v.NumField() {
			visitItems(v.Field(i), see, clear)
		}
	case reflect.Slice:
		whole := v.Slice(0, v.Cap())
		for i := range whole.Len() {
			see(whole.Index(i))
			visitItems(whole.Index(i), see, clear)
			if clear {
				whole.Index(i).SetZero()
			}
		}
	}
}

// roomy returns a copy of a state with room behind its lists, which would show what is appended to them.
func roomy(s api.State) api.State {
	s.Table = append(slices.Clone(s.Table), api.Hold{Owner: 9, Depth: 9})[:len(s.Table)]
	s.Threads = append(slices.Clone(s.Threads), api.Thread{})[:len(s.Threads)]
	for n, thread := range s.Threads {
		l := append(slices.Clone(thread.Frames), api.Frame{Proc: 9, PC: 9})[:len(thread.Frames)]
		for k, f := range l {
			l[k].Locks = append(slices.Clone(f.Locks), 99)[:len(f.Locks)]
		}
		s.Threads[n].Frames = l
	}
	return s
}

// whole returns a text of a state that shows what is behind its lists.
func whole(s api.State) string {
	text := fmt.Sprint(s.Globals, s.Table[:cap(s.Table)], s.Threads[:cap(s.Threads)])
	for _, thread := range s.Threads {
		text += fmt.Sprint(thread.Frames[:cap(thread.Frames)])
		for _, f := range thread.Frames {
			text += fmt.Sprint(f.Locks[:cap(f.Locks)])
		}
	}
	return text
}

// checkMemory tests R2 and R3: nothing is changed, kept or shared, and the results are the same again.
func (a arguments) checkMemory(t *testing.T) results {
	t.Helper()
	a.State = roomy(a.State)
	before := fmt.Sprint(a) + whole(a.State)
	first, second := a.call(), a.call()
	want := fmt.Sprint(second)
	taken := map[uintptr]bool{}
	argument := func(item reflect.Value) { taken[item.Addr().Pointer()] = true }
	result := func(item reflect.Value) {
		if taken[item.Addr().Pointer()] {
			t.Fatalf("a result for %.2000s shares memory", before)
		}
		taken[item.Addr().Pointer()] = true
	}
	visitItems(reflect.ValueOf(&a).Elem(), argument, false)
	visitItems(reflect.ValueOf(&first).Elem(), result, true)
	again := a.call()
	if fmt.Sprint(second) != want || fmt.Sprint(again) != want || fmt.Sprint(a)+whole(a.State) != before {
		t.Fatalf("the arguments %.2000s have changed, or the results are no longer %s", before, want)
	}
	return second
}

func TestMemory(t *testing.T) { // R2, R3
	r := rand.New(rand.NewSource(3))
	open, events := 0, 0
	for range 600 {
		s := mustRead(t, randomProgram(r))
		states := schedule.Trace(s.unit, s.randomPicks(r, 60))
		for range 5 {
			state := states[r.Intn(len(states))]
			got := arguments{s.unit, s.closure, state, r.Intn(len(state.Threads)+2) - 1, r.Intn(4)}.checkMemory(t)
			open += min(len(got.Config.Stack)/2, 1)
			events += min(got.Kind, 1)
		}
	}
	if open < 150 || events < 70 {
		t.Errorf("only %d configurations with several points, and %d events", open, events)
	}
}

func TestUnspecified(t *testing.T) { // R1, R2, R4, R6: units that are no code of a program, closures that are none of theirs, and states that have none of their runs
	numbers := []int{least, -1, 0, 1, 2, 8, 1 << 40, most}
	var code []api.Instr
	for op := -1; op <= 9; op++ {
		for _, n := range numbers {
			code = append(code, api.Instr{Op: op, Target: n, Place: api.Place{Param: n&1 == 1, Index: n}})
		}
	}
	procs := []api.Proc{{Code: code}, {}, {Locks: most, Code: code[20:]}, {Code: code[24:25]}}
	mutexes := []api.Mutex{{}, {Size: least, Reentrant: true}, {Size: most}, {Size: 3, Reentrant: true}}
	table := []api.Hold{{Owner: 1, Depth: most}, {Owner: least, Depth: least}, {Owner: 1, Depth: -1}, {Owner: most}, {Owner: 1, Depth: most}}
	var instances []api.Instance
	var frames []api.Frame
	for _, n := range numbers {
		instances = append(instances, api.Instance{Proc: n}, api.Instance{Proc: n, Locks: numbers}, api.Instance{Proc: n, Locks: []int{n}})
		for pc := range 11 * len(numbers) {
			frames = append(frames, api.Frame{Proc: n, PC: pc}, api.Frame{Proc: n, PC: pc, Locks: numbers, Ints: numbers})
		}
		frames = append(frames, api.Frame{Proc: 0, PC: n}, api.Frame{Proc: 0, PC: 7, Locks: []int{n}})
	}
	calls := [][]int{numbers, nil, slices.Repeat(numbers, 20), slices.Repeat([]int{0}, 70), slices.Repeat([]int{4, 6, 8}, 40)}
	threads := []int{0, 2, 0, 2, 0, 2, 1, -1, 3, most, least}
	events, defined, kinds := 0, 0, []int{0, api.FindUnheld, api.FindSelf, api.FindOver}
	for _, u := range []api.Unit{{}, {Procs: procs}, {Mutexes: mutexes}, {Procs: procs, Mutexes: mutexes, Main: least}, {Procs: procs[2:], Mutexes: mutexes[1:]}} {
		for _, c := range []api.Closure{{}, {Calls: calls, Roots: numbers}, {Instances: instances}, {Instances: instances, Calls: calls, Roots: numbers}, {Instances: instances[4:9], Calls: calls[2:]}} {
			for n, f := range frames {
				s := api.State{Globals: numbers, Table: table[:n%6], Threads: []api.Thread{{Frames: []api.Frame{f}}, {}, {Frames: []api.Frame{frames[n*7%len(frames)], f}}}}
				if n%11 == 0 {
					s.Fault = numbers[n%len(numbers)]
				}
				a := arguments{u, c, s, threads[n%len(threads)], numbers[n%len(numbers)]}
				got := a.call()
				if n%20 == 0 {
					got = a.checkMemory(t)
				}
				if !got.Is && !model.Same(got.Config, api.Config{}) || !slices.Contains(kinds, got.Kind) || got.Kind == 0 && got.Lock != 0 || got.Lock < 0 || got.Lock > len(u.Mutexes) {
					t.Fatalf("in %v there is %+v", s, got)
				}
				events += min(got.Kind, 1)
				defined += min(len(got.Config.Stack), 1)
			}
		}
	}
	if events < 20 || defined < 2000 {
		t.Errorf("%d events, and %d configurations", events, defined)
	}
}

func TestNoMutex(t *testing.T) { // R1: a mutex that is not declared is held to no depth
	s := mustRead(t, leaving)
	state := s.run(t, "00000")
	for _, m := range []int{least, -1, 2, 3, 1 << 40, most} {
		for thread, want := range []string{"0", "0 f():0"} {
			if got := s.project(state, thread, m); got != want {
				t.Errorf("for mutex %d, thread %d is %q", m, thread, got)
			}
		}
		if !s.follows(state, 0, m) || !s.follows(state, -1, m) {
			t.Errorf("for mutex %d, a step that is not possible does not follow", m)
		}
	}
}

func FuzzFollows(f *testing.F) { // P19.1 to P19.4
	f.Add(large(), []byte{0, 0, 0, 0, 0})
	f.Add(calls, make([]byte, 20))
	f.Add(started, []byte{0, 1, 1, 0, 0, 0, 2, 3})
	f.Add(deep, make([]byte, 150))
	f.Fuzz(func(t *testing.T, source string, bytes []byte) {
		s, is := read(source)
		if !is || len(s.unit.Mutexes) == 0 || len(bytes) > 300 {
			return
		}
		var picks []int
		for _, b := range bytes {
			picks = append(picks, int(b%8))
		}
		picks = schedule.Useful(s.unit, picks)
		states := schedule.Trace(s.unit, picks)
		var count seen
		for _, state := range states {
			s.compare(t, state, &count)
		}
		for m := range s.unit.Mutexes {
			s.comparePaths(t, states, picks, m, &count)
		}
	})
}
