package explore_test

import (
	"fmt"
	"math/rand"
	"reflect"
	"runtime/debug"
	"slices"
	"strings"
	"testing"

	"lockorder/api"
	"lockorder/explore"
	"lockorder/lower"
	"lockorder/machine"
	"lockorder/parse"
	"lockorder/schedule"
)

// seen counts what programs have.
type seen struct{ programs, more, deadlocks, late, faults, schedules int }

// compareAll tests States and Search of a unit for few steps against all schedules, and for some greater numbers of steps and all numbers of states up to 12.
func compareAll(t *testing.T, what string, u api.Unit, few int, count *seen) {
	t.Helper()
	count.programs++
	for steps := range few + 1 {
		l, schedules := bySchedules(u, steps)
		for n := -1; n <= min(len(l)+1, 12); n++ {
			l.compare(t, what, u, steps, n)
		}
		l.compare(t, what, u, steps, 500)
		count.schedules += schedules
	}
	l := byRounds(u, 200)
	for _, most := range []int{len(l) - 1, len(l)} {
		l.compare(t, what, u, 200, most)
	}
	if len(l) > 500 {
		count.more++
	}
	if index := l.firstDeadlock(u, 500); index >= 0 {
		count.deadlocks++
		if len(l[index].picks) > few {
			count.late++
		}
	}
	if slices.ContainsFunc(l, func(p place) bool { return p.state.Fault != 0 }) {
		count.faults++
	}
}

func TestAllSmallPrograms(t *testing.T) { // P12.1, P12.2, P12.3
	statements := []string{"", "lock a;", "lock r;", "lock r; unlock r;", "unlock a;", "lock c[0];", "lock c[x];", "f(0, mutex c[x]);", "x = 1 - x;", "x = 7;", "if x { lock a; }", "return;"}
	var count seen
	for _, one := range statements {
		for _, two := range statements {
			for _, other := range []string{"lock m; lock a;", "lock r; lock m;", "lock c[x]; x = n; lock a;", "while x { lock m; unlock m; }"} {
				s := "var x = 1; mutex a; rmutex r; mutex c[2]; func main() { go f(2, mutex c[0]);" + one + two + "lock c[1]; } func f(n, mutex m) {" + other + "}"
				compareAll(t, s, mustLower(t, s), 4, &count)
			}
		}
	}
	if count.deadlocks < 100 || count.late < 30 || count.faults < 100 || count.schedules < 10000 {
		t.Errorf("%+v", count)
	}
}

// statements are those of which randomProgram makes functions. Most of them lock something.
var statements = []string{
	"lock a;", "lock b;", "lock r;", "lock c[0];", "lock c[1];", "lock c[n];", "lock c[x];", "lock m;", "lock m;",
	"lock c[n]; lock c[(n + 1) % 3]; unlock c[n];", "lock c[n]; lock c[x % 3]; unlock c[n];",
	"lock a; lock b; unlock b; unlock a;", "lock b; lock a; unlock a; unlock b;", "lock r; lock m; unlock m; unlock r;", "lock r; lock r; unlock r;",
	"f(n, mutex c[x]);", "f(1, mutex r);", "g(n, mutex m);", "x = x + 1;", "x = 2 - x;", "x = 0;", "n = n * 3 - x;", "if x { lock c[2]; } else { lock r; }", "while x > 1 { x = x - 1; }", "while 1 { lock m; unlock m; }", "return;", "go f(n, mutex b);", "unlock m;", "x = 1 / x;",
}

// randomProgram makes the text of a program by chance.
func randomProgram(r *rand.Rand) string {
	block := func(first string) string {
		s := "{ " + first
		for range 1 + r.Intn(4) {
			s += statements[r.Intn(len(statements))] + " "
		}
		return s + "}"
	}
	start := ""
	for range r.Intn(3) {
		start += fmt.Sprintf("go %s(%d, mutex %s); ", []string{"f", "g"}[r.Intn(2)], r.Intn(3), []string{"a", "b", "r", "c[0]", "c[1]", "c[2]"}[r.Intn(6)])
	}
	text := "var x = 1; mutex a; mutex b; rmutex r; mutex c[3]; func main() { " + start + "h(2, mutex c[1]); } "
	for _, name := range []string{"f", "g", "h"} {
		text += "func " + name + "(n, mutex m) " + block("") + " "
	}
	return text
}

func TestRandomPrograms(t *testing.T) { // P12.1, P12.2, P12.3
	r := rand.New(rand.NewSource(1))
	var count seen
	for range 500 {
		s := randomProgram(r)
		compareAll(t, s, mustLower(t, s), 4, &count)
	}
	if count.more < 50 || count.programs-count.more < 50 || count.deadlocks < 100 || count.late < 50 || count.faults < 50 {
		t.Errorf("%+v", count)
	}
}

func TestReached(t *testing.T) { // P12.3: if the last round added nothing, no step leads out of the states, and each of them is reached
	r := rand.New(rand.NewSource(2))
	var count seen
	for range 400 {
		s := randomProgram(r)
		u := mustLower(t, s)
		l, all := explore.States(u, 199, 500)
		if more, _ := explore.States(u, 200, 500); !all || len(more) > len(l) {
			continue
		}
		count.programs++
		known := map[string]int{}
		for i, s := range l {
			known[text(s)] = i
		}
		reached := make([]bool, len(l))
		reached[known[text(machine.New(u))]] = true
		for i, state := range l {
			for _, next := range (place{state: state}).next(u) {
				j, ok := known[next.key]
				if !ok || !reached[i] {
					t.Fatalf("%s: %v, which leads to %v, is one of %d states", s, state, next.state, len(l))
				}
				reached[j] = true
			}
		}
		if slices.Contains(reached, false) {
			t.Fatalf("%s: one of the states %v cannot be reached", s, l)
		}
		picks, ok := explore.Search(u, 200, 500)
		if ok {
			count.deadlocks++
		}
		// No shorter schedule leads to a deadlocked state.
		if shorter, found := explore.Search(u, len(picks)-1, 500); ok && found {
			t.Fatalf("%s: Search = %v, but there is %v", s, picks, shorter)
		}
		if _, n := schedule.Run(u, picks); n != len(picks) {
			t.Fatalf("%s: only %d of the steps %v are possible", s, n, picks)
		}
	}
	if count.programs < 200 || count.deadlocks < 50 {
		t.Errorf("%+v", count)
	}
}

// visit calls see for every item of every slice in v, as far as the capacities reach, and clears what it has seen if clear is true.
func visit(v reflect.Value, see func(item reflect.Value), clear bool) {
	switch v.Kind() {
	case reflect.Struct:
		for i := range v.NumField() {
			visit(v.Field(i), see, clear)
		}
	case reflect.Slice:
		all := v.Slice(0, v.Cap())
		for i := range all.Len() {
			see(all.Index(i))
			visit(all.Index(i), see, clear)
			if clear {
				all.Index(i).SetZero()
			}
		}
	}
}

// results are all that the functions return for a unit.
type results struct {
	States []api.State
	All    bool
	Picks  []int
	OK     bool
}

// callAll calls both functions.
func callAll(u api.Unit, steps, most int) results {
	var r results
	r.States, r.All = explore.States(u, steps, most)
	r.Picks, r.OK = explore.Search(u, steps, most)
	return r
}

func TestMemory(t *testing.T) { // R2, R3: nothing is changed, kept or shared, and the results are the same again
	r := rand.New(rand.NewSource(3))
	schedules := 0
	for range 200 {
		source := randomProgram(r)
		u, original := mustLower(t, source), mustLower(t, source)
		steps, most := r.Intn(20), r.Intn(60)
		first := callAll(u, steps, most)
		want := fmt.Sprint(first)
		second := callAll(u, steps, most)
		if first.OK {
			schedules++
		}
		addresses := map[uintptr]bool{}
		argument := func(item reflect.Value) { addresses[item.Addr().Pointer()] = true }
		result := func(item reflect.Value) {
			if item.Type().Size() > 0 && addresses[item.Addr().Pointer()] {
				t.Fatalf("a result for %q shares memory", source)
			}
			addresses[item.Addr().Pointer()] = true
		}
		visit(reflect.ValueOf(&u).Elem(), argument, false)
		visit(reflect.ValueOf(&first).Elem(), result, true)
		if fmt.Sprint(second) != want {
			t.Fatalf("the results for %q are %v; want %s", source, second, want)
		}
		visit(reflect.ValueOf(&second).Elem(), result, true)
		if fmt.Sprint(callAll(u, steps, most)) != want || !reflect.DeepEqual(u, original) {
			t.Fatalf("the argument has become %v", u)
		}
	}
	if schedules < 10 {
		t.Errorf("only %d schedules in results", schedules)
	}
}

func TestUnspecified(t *testing.T) { // R1, R6: units that are no code of a program
	numbers := []int{least, -2, -1, 0, 1, 2, 40, 1 << 40, most}
	expressions := []api.Expr{{}, {Op: api.OpLocal, Num: -1}, {Op: api.OpGlobal, Num: most}, {Op: api.OpDivide}, {Op: 99, Args: make([]api.Expr, 3)}}
	for _, n := range numbers {
		for op := -1; op <= 9; op++ {
			var code []api.Instr
			for _, target := range numbers {
				place := api.Place{Param: target%2 == 0, Index: target, At: expressions}
				code = append(code, api.Instr{Op: op, Target: target, Global: n > 0, Expr: expressions[len(code)%5], Ints: expressions[:len(code)%3], Places: []api.Place{place}[:len(code)%2], Place: place})
			}
			procs := []api.Proc{{Ints: n, Locks: n, Locals: min(n, 40), Code: code}, {Locals: n}, {Code: code[3:]}}
			for _, u := range []api.Unit{{}, {Main: n}, {Procs: procs, Main: n}, {Procs: procs, Main: 2}, {Procs: procs, Mutexes: []api.Mutex{{Size: n}, {Reentrant: true}}, Globals: []int{1}}, {Procs: procs[:1]}} {
				for _, steps := range []int{least, 3, n, most} {
					if l := callAll(u, steps, n).States; len(l) < 1 || len(l) > 500 {
						t.Fatalf("%d states of %v", len(l), u)
					}
					callAll(u, steps, 50)
				}
			}
		}
	}
}

func TestDeepExpressions(t *testing.T) { // R1: one that is deeper than the stack of calls
	defer debug.SetMaxStack(debug.SetMaxStack(1 << 20))
	e := api.Expr{Op: api.OpNumber, Num: 1}
	for range 300000 {
		e = api.Expr{Op: api.OpNot, Args: []api.Expr{e}}
	}
	i := api.Instr{Op: api.InstrLock, Place: api.Place{At: []api.Expr{e}}}
	u := api.Unit{Mutexes: []api.Mutex{{Size: 2}}, Procs: []api.Proc{{Code: []api.Instr{i, i, {Op: api.InstrReturn}}}}}
	if r := callAll(u, 200, 500); len(r.States) != 2 || !r.All || !slices.Equal(r.Picks, []int{0}) || !r.OK {
		t.Errorf("the results are %v", r)
	}
}

func FuzzStates(f *testing.F) { // P12.1 to P12.3
	f.Add(crossed, 200, 500)
	f.Add(two, 4, 9)
	f.Add("var x; mutex c[4]; func f(n, mutex m) { lock c[1]; lock m; } func g() { x = 2; } func main() { go f(1, mutex c[0]); go g(); lock c[0]; lock c[x + 1]; }", 7, 30)
	f.Add("rmutex r; mutex a; func f() { lock r; lock a; } func main() { while 1 { go f(); lock a; unlock a; } }", 100, 100)
	f.Fuzz(func(t *testing.T, src string, steps, most int) {
		if strings.Count(src, ";") > 300 {
			return
		}
		p, _, errno := parse.Program([]byte(src))
		if errno != api.OK {
			return
		}
		u, _, _, errno := lower.Lower(p)
		if errno != api.OK {
			return
		}
		byRounds(u, steps).compare(t, src, u, steps, most)
	})
}
