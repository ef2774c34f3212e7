package waits_test

import (
	"fmt"
	"math/rand"
	"reflect"
	"runtime/debug"
	"slices"
	"strings"
	"testing"

	"lockorder/api"
	"lockorder/lower"
	"lockorder/machine"
	"lockorder/parse"
	"lockorder/waits"
)

// dissolves reports whether a thread that is deadlocked before a step is enabled after it.
func dissolves(u api.Unit, before, after api.State) bool {
	return slices.ContainsFunc(waits.Deadlocked(u, before), func(thread int) bool { return waits.Enabled(u, after, thread) })
}

func TestAllSmallPrograms(t *testing.T) { // P11.1 to P11.4: all schedules of two or three threads with few statements
	statements := []string{"", "lock a;", "lock r;", "lock r; lock r;", "unlock a;", "lock c[0];", "lock c[x];", "f(0, mutex c[x]);", "x = 1 - x;", "x = 7;", "if x { lock a; }", "return;"}
	var count seen
	var walk func(u api.Unit, s api.State, stuck []int, n int)
	walk = func(u api.Unit, s api.State, stuck []int, n int) {
		stuck = compare(t, u, s, stuck, &count)
		for thread := 0; n > 0 && thread < len(s.Threads); thread++ {
			if next, ok := machine.Step(u, s, thread); ok {
				walk(u, next, stuck, n-1)
			}
		}
	}
	for _, one := range statements {
		for _, two := range statements {
			for _, other := range []string{"lock m; lock a;", "lock r; lock m;", "lock c[x]; x = n; lock a;", "go f(0, mutex r); lock m;"} {
				u := mustLower(t, "var x = 1; mutex a; rmutex r; mutex c[2]; func main() { go f(2, mutex c[0]);"+one+two+"lock c[1]; } func f(n, mutex m) {"+other+"}")
				walk(u, machine.New(u), nil, 6)
			}
		}
	}
	if min(count.waiting, count.cycles, count.ended, count.quiet, count.faults) < 1000 || count.behind < 200 {
		t.Errorf("%+v", count)
	}
}

// statements are those of which randomProgram makes functions. Most of them lock something.
var statements = []string{
	"lock a;", "lock b;", "lock r;", "lock c[0];", "lock c[1];", "lock c[2];", "lock c[n];", "lock c[x];", "lock m;", "lock m;",
	"lock c[n]; lock c[(n + 1) % 3]; unlock c[n];", "lock c[n]; lock c[(n + 1) % 3]; unlock c[(n + 1) % 3]; unlock c[n];", "lock c[n]; lock c[(n + x) % 3]; unlock c[n];", "lock c[n]; lock c[x % 3]; unlock c[n];",
	"lock a; lock b; unlock b; unlock a;", "lock b; lock a; unlock a; unlock b;", "lock r; lock m; unlock m; unlock r;", "lock r; lock r; unlock r;",
	"f(n, mutex c[x]);", "f(1, mutex r);", "g(n, mutex m);", "x = x + 1;", "x = 2 - x;", "x = 0;", "if x { lock c[2]; } else { lock r; }", "while x > 1 { x = x - 1; }", "return;", "go f(n, mutex b);", "unlock m;", "x = 1 / x;",
}

// randomProgram makes the text of a program by chance, and randomly many threads of it.
func randomProgram(r *rand.Rand) string {
	block := func(first string) string {
		s := "{ " + first
		for range 1 + r.Intn(4) {
			s += statements[r.Intn(len(statements))] + " "
		}
		return s + "}"
	}
	start := ""
	for range 1 + r.Intn(5) {
		start += fmt.Sprintf("go %s(%d, mutex %s); ", []string{"f", "g", "h"}[r.Intn(3)], r.Intn(3), []string{"a", "b", "r", "c[0]", "c[1]", "c[2]"}[r.Intn(6)])
	}
	text := "var x = 1; mutex a; mutex b; rmutex r; mutex c[3]; func main() { " + start + "h(2, mutex c[1]); } "
	for _, name := range []string{"f", "g", "h"} {
		text += "func " + name + "(n, mutex m) " + block("") + " "
	}
	return text
}

func TestRandomRuns(t *testing.T) { // P11.1 to P11.4
	r := rand.New(rand.NewSource(2))
	var count seen
	for range 1000 {
		u := mustLower(t, randomProgram(r))
		for range 3 {
			s := machine.New(u)
			var stuck []int
			for range 60 {
				if len(s.Threads) > 8 {
					break // there would be too many sets
				}
				stuck = compare(t, u, s, stuck, &count)
				next, ok := machine.Step(u, s, r.Intn(len(s.Threads)))
				if ok && dissolves(u, s, next) {
					count.dissolved++
				}
				s = next
			}
		}
	}
	if min(count.waiting, count.cycles, count.behind, count.ended, count.quiet, count.faults) < 1000 || min(count.more, count.long) < 100 || count.dissolved < 3 {
		t.Errorf("%+v", count)
	}
}

// visit calls see for every item of every slice in v, as far as the capacities reach.
func visit(v reflect.Value, see func(item reflect.Value)) {
	switch v.Kind() {
	case reflect.Struct:
		for i := range v.NumField() {
			visit(v.Field(i), see)
		}
	case reflect.Slice:
		all := v.Slice(0, v.Cap())
		for i := range all.Len() {
			see(all.Index(i))
			visit(all.Index(i), see)
		}
	}
}

// everything returns the items of all lists of units and states, as far as the capacities reach.
func everything(u *api.Unit, s *api.State) string {
	var l []string
	for _, v := range []reflect.Value{reflect.ValueOf(u).Elem(), reflect.ValueOf(s).Elem()} {
		l = append(l, fmt.Sprint(v))
		visit(v, func(item reflect.Value) { l = append(l, fmt.Sprint(item)) })
	}
	return strings.Join(l, " ")
}

func TestMemory(t *testing.T) { // R2, R3: nothing is changed, kept or shared, and the results are the same again
	r := rand.New(rand.NewSource(3))
	results := 0
	for range 150 {
		u := mustLower(t, randomProgram(r))
		s := machine.New(u)
		for range 40 {
			s, _ = machine.Step(u, s, r.Intn(len(s.Threads)))
			before := everything(&u, &s)
			want := callAll(u, s, 0)
			lists := [][]int{waits.Deadlocked(u, s), waits.Cycle(u, s), waits.Deadlocked(u, s), waits.Cycle(u, s)}
			addresses := map[uintptr]bool{}
			see := func(item reflect.Value) { addresses[item.Addr().Pointer()] = true }
			visit(reflect.ValueOf(&u).Elem(), see)
			visit(reflect.ValueOf(&s).Elem(), see)
			for _, l := range lists {
				whole := l[:cap(l)]
				for i := range whole {
					if addresses[reflect.ValueOf(&whole[i]).Pointer()] {
						t.Fatalf("a result for %v shares memory", s)
					}
					see(reflect.ValueOf(whole).Index(i))
					whole[i] = -7
					results++
				}
			}
			if again := callAll(u, s, 0); again != want || everything(&u, &s) != before {
				t.Fatalf("%s has become %v, %v, and %s is %s", before, u, s, want, again)
			}
		}
	}
	if results < 1000 {
		t.Errorf("only %d threads in results", results)
	}
}

// callAll calls all functions, and returns their results as a text.
func callAll(u api.Unit, s api.State, thread int) string {
	element, holder, ok := waits.Waiting(u, s, thread)
	return fmt.Sprint(element, holder, ok, waits.Enabled(u, s, thread), waits.Deadlocked(u, s), waits.Cycle(u, s), waits.Quiet(u, s))
}

func TestUnspecified(t *testing.T) { // R1, R4, R6: units that are no code of a program, and states of other units
	numbers := []int{least, -2, -1, 0, 1, 2, 3, 33, 40, 1 << 40, most}
	expressions := []api.Expr{{}, {Op: api.OpLocal, Num: -1}, {Op: api.OpGlobal, Num: most}, {Op: api.OpDivide}, {Op: api.OpNumber, Num: 1}, {Op: 99, Args: make([]api.Expr, 3)}}
	var code []api.Instr
	for op := -1; op <= 9; op++ {
		for i, n := range numbers {
			code = append(code, api.Instr{Op: op, Target: n, Place: api.Place{Param: i%2 == 0, Index: n, At: expressions[i%len(expressions):]}})
			code = append(code, api.Instr{Op: op, Target: n, Place: api.Place{Param: i%2 != 0, Index: n}})
		}
	}
	for _, n := range numbers {
		procs := []api.Proc{{Ints: n, Locks: n, Locals: n, Code: code}, {Locals: n}}
		for _, u := range []api.Unit{{}, {Main: n}, {Procs: procs, Main: n}, {Procs: procs, Mutexes: []api.Mutex{{Size: n}, {Reentrant: true}}, Globals: []int{1}}} {
			for _, fault := range []int{0, 1, n} {
				for pc := range code {
					frames := []api.Frame{{Proc: n, PC: n}, {PC: pc, Ints: []int{n}, Locks: []int{n, 0, 1, 2}}}
					threads := []api.Thread{{}, {Frames: frames}, {Frames: frames[:1]}, {Frames: frames[1:]}}
					s := api.State{Globals: []int{n}, Table: []api.Hold{{Owner: 2, Depth: n}, {Owner: n, Depth: 1}, {Owner: 4}, {Depth: 3}}, Threads: threads, Fault: fault}
					for _, thread := range []int{1, n} {
						callAll(u, s, thread)
						callAll(u, api.State{Threads: threads, Fault: fault}, thread)
						callAll(u, api.State{}, thread)
					}
					if element, holder, ok := waits.Waiting(u, s, 3); !ok && (element != 0 || holder != 0) {
						t.Fatalf("Waiting = %d, %d, false", element, holder)
					}
				}
			}
		}
	}
}

func TestTooManyThreads(t *testing.T) { // R1, R6: more of them than there may be, on a cycle and behind it
	g := graph(append(upTo(api.MaxThreads)[1:], 0))
	u, s := g.state(t)
	s.Threads = slices.Repeat(s.Threads, 3)
	for element := range s.Table {
		for owner := range []int{0, 1, 32, 33, 64, 96, 97} {
			s.Table[element].Owner = owner
			callAll(u, s, 95)
		}
		s.Table[element].Owner = 3*element%97 + 1
	}
	callAll(u, s, 95)
}

func TestDeepExpressions(t *testing.T) { // R1: an Index that is deeper than the stack of calls
	defer debug.SetMaxStack(debug.SetMaxStack(1 << 20))
	e := api.Expr{Op: api.OpNumber, Num: 1}
	for range 300000 {
		e = api.Expr{Op: api.OpNot, Args: []api.Expr{e}}
	}
	i := api.Instr{Op: api.InstrLock, Place: api.Place{At: []api.Expr{e}}}
	u := api.Unit{Mutexes: []api.Mutex{{Size: 2}}, Procs: []api.Proc{{Code: []api.Instr{i, i, {Op: api.InstrReturn}}}}}
	s, ok := machine.Step(u, machine.New(u), 0)
	if !ok || callAll(u, s, 0) != "1 0 true false [0] [0] true" {
		t.Errorf("in %v, the results are %s", s, callAll(u, s, 0))
	}
}

func FuzzWaiting(f *testing.F) { // P11.1 to P11.4
	f.Add(crossed, []byte{0, 0, 1, 0, 1})
	f.Add("var x; mutex c[4]; func f(n, mutex m) { lock c[1]; lock m; } func g() { x = 2; } func main() { go f(1, mutex c[0]); go g(); lock c[0]; lock c[x + 1]; }", []byte{0, 0, 0, 1, 1, 1, 2, 0, 0})
	f.Add("rmutex r; mutex a; func f() { lock r; lock a; } func main() { go f(); go f(); lock a; lock a; }", []byte("\x00\x00\x00\x01\x00\x01\x02"))
	f.Fuzz(func(t *testing.T, src string, picks []byte) {
		p, _, errno := parse.Program([]byte(src))
		if errno != api.OK {
			return
		}
		u, _, _, errno := lower.Lower(p)
		if errno != api.OK {
			return
		}
		s := machine.New(u)
		var stuck []int
		var count seen
		for _, pick := range picks[:min(len(picks), 100)] {
			if len(s.Threads) > 8 {
				return
			}
			stuck = compare(t, u, s, stuck, &count)
			s, _ = machine.Step(u, s, int(pick)%(len(s.Threads)+1))
		}
	})
}
