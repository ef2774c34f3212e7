package flow_test

import (
	"fmt"
	"math/rand"
	"reflect"
	"slices"
	"strings"
	"testing"

	"lockorder/api"
	"lockorder/flow"
	"lockorder/instance"
	"lockorder/lower"
	"lockorder/parse"
	"lockorder/schedule"
	"lockorder/table"
)

func TestAllSmallPrograms(t *testing.T) { // P15.1 to P15.3
	leaves := []string{"", "lock a;", "unlock m;", "return;", "f(mutex c[0], mutex m);", "go f(mutex m, mutex c[1]);"}
	all := slices.Clone(leaves)
	for _, then := range leaves {
		for _, other := range leaves {
			all = append(all, "if 1 { "+then+" } else { "+other+" }")
		}
		all = append(all, "while 1 { "+then+" }", "while 1 { lock k; if 1 { "+then+" } }")
	}
	var count seen
	for _, one := range all {
		for _, two := range all {
			compare(t, "mutex a; rmutex b; mutex c[2]; func f(mutex m, mutex k) { "+one+two+" } func main() { f(mutex a, mutex b); f(mutex b, mutex b); }", &count)
		}
	}
	if count.programs != 54*54 || count.instances < 9000 || count.locks < 6000 || count.unlocks < 6000 || count.ways[0] < 9000 || count.ways[2] < 9000 || count.backward < 4000 || count.equal < 500 {
		t.Errorf("%+v", count)
	}
}

// maker makes programs by chance.
type maker struct {
	r         *rand.Rand
	mutexes   []string // as they are written where a mutex is named
	functions [][]bool // for each function, whether its parameters are mutexes
	body      strings.Builder
}

// randomProgram makes the text of a program. Its functions call each other in any order.
func randomProgram(r *rand.Rand) string {
	m := maker{r: r}
	var s strings.Builder
	s.WriteString("var x = 1; ")
	for n := range 1 + r.Intn(6) {
		k := r.Intn(3)
		s.WriteString(fmt.Sprintf([]string{"mutex m%d; ", "rmutex m%d; ", "mutex m%d[3]; "}[k], n))
		m.mutexes = append(m.mutexes, fmt.Sprintf("m%d", n)+[]string{"", "", "[x]"}[k])
	}
	main := r.Intn(1 + r.Intn(4))
	for range main + 1 + r.Intn(3) {
		kinds := make([]bool, r.Intn(5))
		for i := range kinds {
			kinds[i] = r.Intn(3) > 0
		}
		m.functions = append(m.functions, kinds)
	}
	m.functions[main] = nil
	for n, kinds := range m.functions {
		if n == main {
			s.WriteString("func main() ")
		} else {
			s.WriteString(fmt.Sprintf("func f%d(%s) ", n, parameters(kinds)))
		}
		m.body.Reset()
		m.block(kinds, main, 1+r.Intn(7), 0)
		s.WriteString(m.body.String())
	}
	return s.String()
}

// parameters returns the text of parameters.
func parameters(kinds []bool) string {
	var l []string
	for n, mutex := range kinds {
		sort := ""
		if mutex {
			sort = "mutex "
		}
		l = append(l, fmt.Sprintf("%sp%d", sort, n))
	}
	return strings.Join(l, ", ")
}

// block adds a block of a function with parameters of these kinds.
func (m *maker) block(kinds []bool, main, statements, nested int) {
	m.body.WriteString("{ ")
	for range statements {
		switch k := m.r.Intn(14); {
		case k < 2:
			m.body.WriteString("lock " + m.mutex(kinds) + "; ")
		case k == 2:
			m.body.WriteString("unlock " + m.mutex(kinds) + "; ")
		case k < 5: // A step that is not likely to be the last one of a run.
			name := m.mutex(kinds)
			m.body.WriteString("lock " + name + "; x = 1 - x; unlock " + name + "; ")
		case k == 5:
			m.body.WriteString([]string{"x = 1 - x; ", "return; "}[m.r.Intn(2)])
		case k < 10 && nested < 3:
			m.body.WriteString([]string{"if x ", "while x "}[k%2])
			m.block(kinds, main, m.r.Intn(3), nested+1)
			if k%2 == 0 && m.r.Intn(2) == 0 {
				m.body.WriteString("else ")
				m.block(kinds, main, m.r.Intn(3), nested+1)
			}
		default:
			m.call(kinds, main)
		}
	}
	m.body.WriteString("} ")
}

// call adds a statement that calls or starts some function.
func (m *maker) call(kinds []bool, main int) {
	n := m.r.Intn(len(m.functions))
	var args []string
	for _, mutex := range m.functions[n] {
		if mutex {
			args = append(args, "mutex "+m.mutex(kinds))
		} else {
			args = append(args, "x")
		}
	}
	name := fmt.Sprintf("f%d", n)
	if n == main {
		name = "main"
	}
	m.body.WriteString([]string{"", "", "go "}[m.r.Intn(3)] + name + "(" + strings.Join(args, ", ") + "); ")
}

// mutex returns a parameter or a declared mutex.
func (m *maker) mutex(kinds []bool) string {
	if n := m.r.Intn(len(kinds) + 1); n < len(kinds) && kinds[n] {
		return fmt.Sprintf("p%d", n)
	}
	return m.mutexes[m.r.Intn(len(m.mutexes))]
}

func TestRandomPrograms(t *testing.T) { // P15.1 to P15.3
	r := rand.New(rand.NewSource(1))
	var count seen
	for range 1500 {
		compare(t, randomProgram(r), &count)
	}
	if count.programs < 1400 || count.instances < 3000 || count.locks < 5000 || count.unlocks < 4000 || count.keeps < 100000 || count.backward < 3000 || count.equal < 500 {
		t.Errorf("%+v", count)
	}
}

// instanceOf returns the instance of a frame of a run.
func instanceOf(u api.Unit, f api.Frame) api.Instance {
	i := api.Instance{Proc: f.Proc}
	for _, element := range f.Locks {
		i.Locks = append(i.Locks, table.MutexOf(u.Mutexes, element))
	}
	return i
}

// runs counts what runs have.
type runs struct {
	steps, locks, unlocks, jumps, calls, returns int
	deepest                                      int
}

// compareRun tests that a step of the thread t of a run, which is possible and leads to no fault, is one that the functions allow.
func compareRun(t *testing.T, text string, u api.Unit, a, b api.State, thread int, count *runs) {
	t.Helper()
	before, after := a.Threads[thread].Frames, b.Threads[thread].Frames
	f := before[len(before)-1]
	i := instanceOf(u, f)
	next := flow.Next(u, i, f.PC)
	count.steps++
	if len(after) < len(before) {
		if len(next) != 0 {
			t.Fatalf("%s: Next(%s, %d) = %v, but it returns", text, name(u, i), f.PC, next)
		}
		count.returns++
	} else if pc := after[len(before)-1].PC; !slices.Contains(next, pc) {
		t.Fatalf("%s: Next(%s, %d) = %v, but control goes to %d", text, name(u, i), f.PC, next, pc)
	} else if pc != f.PC+1 {
		count.jumps++
	}
	count.calls += max(len(after)-len(before), 0)
	for m, mutex := range u.Mutexes {
		d, e := table.Depth(u.Mutexes, a.Table, m, thread), table.Depth(u.Mutexes, b.Table, m, thread)
		change := flow.Change(u, i, f.PC, m)
		if e-d != change {
			t.Fatalf("%s: Change(%s, %d, %s) = %d, but the depth %d becomes %d", text, name(u, i), f.PC, mutex.Name, change, d, e)
		}
		if r := flow.Relation(u, i, f.PC, m); max(d, e) <= capOf(mutex) && r[d] != 1<<e {
			t.Fatalf("%s: Relation(%s, %d, %s) = %v, but the depth %d becomes %d", text, name(u, i), f.PC, mutex.Name, r, d, e)
		}
		count.locks += max(change, 0)
		count.unlocks += max(-change, 0)
		count.deepest = max(count.deepest, e)
	}
}

func TestRuns(t *testing.T) { // P15.1, P15.2: the steps of the machine
	r := rand.New(rand.NewSource(2))
	var count runs
	for range 2000 {
		text := randomProgram(r)
		u := mustLower(t, text)
		picks := make([]int, 80)
		for n := range picks {
			picks[n] = r.Intn(1 + r.Intn(4))
		}
		picks = schedule.Useful(u, picks)
		states := schedule.Trace(u, picks)
		for n, thread := range picks {
			if states[n+1].Fault == 0 {
				compareRun(t, text, u, states[n], states[n+1], thread, &count)
			}
		}
	}
	if count.steps < 25000 || count.locks < 2000 || count.unlocks < 1000 || count.jumps < 5000 || count.calls < 5000 || count.returns < 700 || count.deepest < 4 {
		t.Errorf("%+v", count)
	}
}

// visit calls see for every item of every slice in v, as far as the capacities reach, and clears what it has seen if clear is true.
func visit(v reflect.Value, see func(item reflect.Value), clear bool) {
	switch v.Kind() {
	case reflect.Struct:
		for i := range v.NumField() {
			visit(v.Field(i), see, clear)
		}
	case reflect.Slice:
		all := v.Slice(0, v.Cap())
		for i := range all.Len() {
			see(all.Index(i))
			visit(all.Index(i), see, clear)
			if clear {
				all.Index(i).SetZero()
			}
		}
	}
}

// results are all that the functions return for the instructions of a unit.
type results struct {
	Changes   []int
	Relations [][]int
	Nexts     [][]int
}

// callAll calls all functions for some instances.
func callAll(u api.Unit, instances []api.Instance, pcs, mutexes []int) results {
	var r results
	for _, i := range instances {
		for _, pc := range pcs {
			r.Nexts = append(r.Nexts, flow.Next(u, i, pc))
			for _, m := range mutexes {
				r.Changes = append(r.Changes, flow.Change(u, i, pc, m))
				r.Relations = append(r.Relations, flow.Relation(u, i, pc, m))
			}
		}
	}
	return r
}

func TestMemory(t *testing.T) { // R2, R3: nothing is changed, kept or shared, and the results are the same again
	r := rand.New(rand.NewSource(3))
	numbers := []int{0, 1, 2, 3, 4, 5, 6, 7, 8, 9, 10, 11}
	relations := 0
	for range 200 {
		source := randomProgram(r)
		u, original := mustLower(t, source), mustLower(t, source)
		c, _ := instance.Close(u)
		instances := c.Instances[:min(len(c.Instances), 10)]
		before := fmt.Sprint(instances)
		first := callAll(u, instances, numbers, numbers)
		want := fmt.Sprint(first)
		second := callAll(u, instances, numbers, numbers)
		addresses := map[uintptr]bool{}
		argument := func(item reflect.Value) { addresses[item.Addr().Pointer()] = true }
		result := func(item reflect.Value) {
			if item.Type().Size() > 0 && addresses[item.Addr().Pointer()] {
				t.Fatalf("a result for %q shares memory", source)
			}
			addresses[item.Addr().Pointer()] = true
		}
		visit(reflect.ValueOf(&u).Elem(), argument, false)
		visit(reflect.ValueOf(&instances).Elem(), argument, false)
		visit(reflect.ValueOf(&first).Elem(), result, true)
		if fmt.Sprint(second) != want {
			t.Fatalf("the results for %q are %v; want %s", source, second, want)
		}
		visit(reflect.ValueOf(&second).Elem(), result, true)
		if fmt.Sprint(callAll(u, instances, numbers, numbers)) != want || fmt.Sprint(instances) != before || !reflect.DeepEqual(u, original) {
			t.Fatalf("the arguments have become %v, %v", u, instances)
		}
		relations += strings.Count(want, "[")
	}
	if relations < 50000 {
		t.Errorf("only %d relations", relations)
	}
}

func TestUnspecified(t *testing.T) { // R1, R6: units that are no code of a program, instances that are none of them, and numbers of nothing
	numbers := []int{least, -2, -1, 0, 1, 2, 8, 9, 1 << 40, most}
	for _, n := range numbers {
		for op := -1; op <= 9; op++ {
			var code []api.Instr
			for _, target := range numbers {
				code = append(code, api.Instr{Op: op, Target: target, Place: api.Place{Param: target%2 == 0, Index: n}})
			}
			procs := []api.Proc{{Ints: n, Locks: n, Code: code}, {Locks: n}, {Code: code[3:]}}
			mutexes := []api.Mutex{{Size: n}, {Size: -n, Reentrant: true}, {Size: 2}}
			for _, u := range []api.Unit{{}, {Mutexes: mutexes}, {Procs: procs, Main: n}, {Procs: procs, Mutexes: mutexes}} {
				var instances []api.Instance
				for _, proc := range numbers {
					instances = append(instances, api.Instance{Proc: proc}, api.Instance{Proc: proc, Locks: []int{n}}, api.Instance{Proc: proc, Locks: numbers})
				}
				checkUnspecified(t, u, callAll(u, instances, numbers, numbers))
			}
		}
	}
}

// checkUnspecified tests what the layers above may rely on for all arguments.
func checkUnspecified(t *testing.T, u api.Unit, r results) {
	t.Helper()
	for _, l := range r.Nexts {
		if len(l) > 2 || len(l) == 2 && l[0] >= l[1] || slices.ContainsFunc(l, func(n int) bool { return n < 0 || n >= 10 }) {
			t.Fatalf("Next for %v = %v", u, l)
		}
	}
	for _, n := range r.Changes {
		if n < -1 || n > 1 {
			t.Fatalf("Change for %v = %d", u, n)
		}
	}
	for _, l := range r.Relations {
		if len(l) != 0 && len(l) != 2 && len(l) != 9 {
			t.Fatalf("Relation for %v = %v", u, l)
		}
	}
}

func FuzzNext(f *testing.F) { // P15.1 to P15.3
	f.Add(mixed)
	f.Add("mutex a; mutex c[4]; func f(n, mutex m) { if n { lock m; } else { while n { unlock a; return; } } lock c[n]; } func main() { go f(1, mutex c[0]); f(2, mutex a); }")
	f.Fuzz(func(t *testing.T, src string) {
		p, _, errno := parse.Program([]byte(src))
		if errno != api.OK {
			return
		}
		if _, _, _, errno := lower.Lower(p); errno != api.OK {
			return
		}
		var count seen
		compare(t, src, &count)
	})
}
