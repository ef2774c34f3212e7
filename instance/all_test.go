package instance_test

import (
	"fmt"
	"math/rand"
	"reflect"
	"runtime/debug"
	"slices"
	"strings"
	"testing"

	"lockorder/api"
	"lockorder/instance"
	"lockorder/lower"
	"lockorder/parse"
	"lockorder/schedule"
	"lockorder/table"
)

// seen counts what closures have.
type seen struct {
	programs, instances, roots, backward int // backward: closures in which an instance calls or starts an earlier one
	many, long                           int // those that have too many instances, and those that only have too many instructions
}

// tooLarge counts a closure that is too large.
func (s *seen) tooLarge(e expected) {
	if len(e.instances) > api.MaxInstances {
		s.many++
	} else {
		s.long++
	}
}

// closure counts a closure.
func (s *seen) closure(e expected) {
	s.instances += len(e.instances)
	if len(e.roots) > 1 {
		s.roots++
	}
	for n, calls := range e.calls {
		if slices.ContainsFunc(calls, func(number int) bool { return number >= 0 && number < n }) {
			s.backward++
			return
		}
	}
}

func TestAllSmallPrograms(t *testing.T) { // P13.1 to P13.4
	statements := []string{"", "f(mutex a, mutex b);", "go f(mutex c[0], mutex b);", "f(mutex a, mutex a);", "g(mutex b);", "go g(mutex c[1]);", "main();", "go main();", "if 1 { g(mutex a); } else { f(mutex b, mutex b); }"}
	inner := []string{"", "f(mutex k, mutex m);", "f(mutex k, mutex a);", "go f(mutex m, mutex m);", "go g(mutex m);", "while 1 { g(mutex k); }", "lock m; unlock k;", "return; g(mutex c[1]);"}
	var count seen
	for _, one := range statements {
		for _, two := range statements {
			for _, three := range inner {
				for _, four := range inner {
					for _, last := range []string{"lock m;", "f(mutex m, mutex b);", "go main();"} {
						compare(t, "mutex a; mutex b; mutex c[2]; func f(mutex m, mutex k) { "+three+four+" } func main() { "+one+two+" } func g(mutex m) { "+last+" }", &count)
					}
				}
			}
		}
	}
	if count.programs != 9*9*8*8*3 || count.instances < 40000 || count.roots < 8000 || count.backward < 8000 {
		t.Errorf("%+v", count)
	}
}

// maker makes programs by chance.
type maker struct {
	r         *rand.Rand
	mutexes   []string // as they are written where a mutex is passed
	functions [][]bool // for each function, whether its parameters are mutexes
	body      strings.Builder
}

// randomProgram makes the text of a program. Its functions call each other in any order; if they shall be large, they have more parameters and statements.
func randomProgram(r *rand.Rand, large int) string {
	m := maker{r: r}
	var s strings.Builder
	s.WriteString("var x = 1; ")
	for n := range 1 + r.Intn(10) + 2*large {
		declaration := []string{"mutex m%d; ", "rmutex m%d; ", "mutex m%d[3]; "}[r.Intn(3)]
		fmt.Fprintf(&s, declaration, n)
		m.mutexes = append(m.mutexes, fmt.Sprintf("m%d", n)+[]string{"", "[x]"}[strings.Count(declaration, "[")])
	}
	main := r.Intn(1 + r.Intn(5))
	for range main + 1 + r.Intn(4) {
		kinds := make([]bool, r.Intn(1+r.Intn(4)+2*large)+large)
		for i := range kinds {
			kinds[i] = r.Intn(3) > 0
		}
		m.functions = append(m.functions, kinds)
	}
	m.functions[main] = nil
	for n, kinds := range m.functions {
		if n == main {
			s.WriteString("func main() ")
		} else {
			fmt.Fprintf(&s, "func f%d(%s) ", n, parameters(kinds))
		}
		m.body.Reset()
		m.block(kinds, main, 1+r.Intn(6)+6*large, 0)
		s.WriteString(m.body.String())
	}
	return s.String()
}

// parameters returns the text of parameters.
func parameters(kinds []bool) string {
	var l []string
	for n, mutex := range kinds {
		l = append(l, []string{"", "mutex "}[number(mutex)]+fmt.Sprintf("p%d", n))
	}
	return strings.Join(l, ", ")
}

func number(is bool) int {
	if is {
		return 1
	}
	return 0
}

// block adds a block of a function with parameters of these kinds.
func (m *maker) block(kinds []bool, main, statements, nested int) {
	m.body.WriteString("{ ")
	for range statements {
		switch k := m.r.Intn(12); {
		case k < 2:
			m.body.WriteString([]string{"lock ", "unlock "}[k] + m.mutex(kinds) + "; ")
		case k == 2:
			m.body.WriteString([]string{"x = 1 - x; ", "return; ", strings.Repeat("x = 0; ", m.r.Intn(100))}[m.r.Intn(3)])
		case k < 5 && nested < 3:
			m.body.WriteString([]string{"if x ", "while x "}[k-3])
			m.block(kinds, main, m.r.Intn(3), nested+1)
			if k == 3 && m.r.Intn(2) == 0 {
				m.body.WriteString("else ")
				m.block(kinds, main, m.r.Intn(3), nested+1)
			}
		default:
			m.call(kinds, main)
		}
	}
	m.body.WriteString("} ")
}

// call adds a statement that calls or starts some function.
func (m *maker) call(kinds []bool, main int) {
	n := m.r.Intn(len(m.functions))
	var args []string
	for _, mutex := range m.functions[n] {
		if mutex {
			args = append(args, "mutex "+m.mutex(kinds))
		} else {
			args = append(args, "x")
		}
	}
	name := fmt.Sprintf("f%d", n)
	if n == main {
		name = "main"
	}
	m.body.WriteString([]string{"", "", "go "}[m.r.Intn(3)] + name + "(" + strings.Join(args, ", ") + "); ")
}

// mutex returns a parameter or a declared mutex.
func (m *maker) mutex(kinds []bool) string {
	if n := m.r.Intn(len(kinds) + 1); n < len(kinds) && kinds[n] {
		return fmt.Sprintf("p%d", n)
	}
	return m.mutexes[m.r.Intn(len(m.mutexes))]
}

func TestRandomPrograms(t *testing.T) { // P13.1 to P13.4
	r := rand.New(rand.NewSource(1))
	var count seen
	for n := range 2000 {
		compare(t, randomProgram(r, n%2), &count)
	}
	if count.instances < 30000 || count.roots < 1000 || count.backward < 1000 || count.many < 60 || count.long < 10 {
		t.Errorf("%+v", count)
	}
}

// instanceOf returns the instance of a frame of a run.
func instanceOf(u api.Unit, f api.Frame) api.Instance {
	i := api.Instance{Proc: f.Proc}
	for _, element := range f.Locks {
		i.Locks = append(i.Locks, table.MutexOf(u.Mutexes, element))
	}
	return i
}

func TestRuns(t *testing.T) { // P13.2: every frame of a run is one of an instance, which the frame before it has called
	r := rand.New(rand.NewSource(2))
	frames, deep, threads := 0, 0, 0
	for range 2000 {
		text := randomProgram(r, r.Intn(2))
		u := mustLower(t, text)
		c, errno := instance.Close(u)
		if errno != api.OK {
			continue
		}
		picks := make([]int, 40)
		for n := range picks {
			picks[n] = r.Intn(1 + r.Intn(4))
		}
		for _, s := range schedule.Trace(u, picks) {
			for n, thread := range s.Threads {
				before := -1
				for depth, f := range thread.Frames {
					number := instance.Find(c, instanceOf(u, f))
					if number < 0 {
						t.Fatalf("%s: there is no instance of the frame %v", text, f)
					}
					if depth == 0 && !slices.Contains(c.Roots, number) {
						t.Fatalf("%s: the thread %d begins in %d; Roots = %v", text, n, number, c.Roots)
					}
					if depth > 0 && !slices.Contains(c.Calls[before], number) {
						t.Fatalf("%s: the instance %d has called %d; its calls are %v", text, before, number, c.Calls[before])
					}
					before = number
					frames++
					deep, threads = max(deep, depth), max(threads, n)
				}
			}
		}
	}
	if frames < 20000 || deep < 5 || threads < 5 {
		t.Errorf("%d frames, up to %d before one, up to %d threads", frames, deep, threads+1)
	}
}

// visit calls see for every item of every slice in v, as far as the capacities reach, and clears what it has seen if clear is true.
func visit(v reflect.Value, see func(item reflect.Value), clear bool) {
	switch v.Kind() {
	case reflect.Struct:
		for i := range v.NumField() {
			visit(v.Field(i), see, clear)
		}
	case reflect.Slice:
		all := v.Slice(0, v.Cap())
		for i := range all.Len() {
			see(all.Index(i))
			visit(all.Index(i), see, clear)
			if clear {
				all.Index(i).SetZero()
			}
		}
	}
}

// results are all that the functions return for a unit.
type results struct {
	Closure api.Closure
	Errno   api.Errno
	Callees []api.Instance
	Numbers []int
}

// callAll calls all functions for a unit and the instances of a closure.
func callAll(u api.Unit, c api.Closure) results {
	var r results
	r.Closure, r.Errno = instance.Close(u)
	r.Numbers = append(r.Numbers, instance.Sites(u, c))
	for _, i := range c.Instances {
		r.Numbers = append(r.Numbers, instance.Find(c, i), instance.Mutex(i, api.Place{Param: true}))
		for pc := range 10 {
			callee, is := instance.Callee(u, i, pc)
			r.Callees, r.Numbers = append(r.Callees, callee), append(r.Numbers, number(is))
		}
	}
	return r
}

func TestMemory(t *testing.T) { // R2, R3: nothing is changed, kept or shared, and the results are the same again
	r := rand.New(rand.NewSource(3))
	instances := 0
	for range 500 {
		source := randomProgram(r, r.Intn(2))
		u, original := mustLower(t, source), mustLower(t, source)
		c, _ := instance.Close(u)
		instances += len(c.Instances)
		before := fmt.Sprint(c)
		first := callAll(u, c)
		want := fmt.Sprint(first)
		second := callAll(u, c)
		addresses := map[uintptr]bool{}
		argument := func(item reflect.Value) { addresses[item.Addr().Pointer()] = true }
		result := func(item reflect.Value) {
			if item.Type().Size() > 0 && addresses[item.Addr().Pointer()] {
				t.Fatalf("a result for %q shares memory", source)
			}
			addresses[item.Addr().Pointer()] = true
		}
		visit(reflect.ValueOf(&u).Elem(), argument, false)
		visit(reflect.ValueOf(&c).Elem(), argument, false)
		visit(reflect.ValueOf(&first).Elem(), result, true)
		if fmt.Sprint(second) != want {
			t.Fatalf("the results for %q are %v; want %s", source, second, want)
		}
		visit(reflect.ValueOf(&second).Elem(), result, true)
		if fmt.Sprint(callAll(u, c)) != want || fmt.Sprint(c) != before || !reflect.DeepEqual(u, original) {
			t.Fatalf("the arguments have become %v, %v", u, c)
		}
	}
	if instances < 3000 {
		t.Errorf("only %d instances", instances)
	}
}

func TestUnspecified(t *testing.T) { // R1, R6: units that are no code of a program, and closures that are none of them
	numbers := []int{least, -2, -1, 0, 1, 2, 40, 1 << 40, most}
	for _, n := range numbers {
		for op := -1; op <= 9; op++ {
			var code []api.Instr
			for _, target := range numbers {
				place := api.Place{Param: target%2 == 0, Index: target}
				code = append(code, api.Instr{Op: op, Target: target, Place: place, Places: []api.Place{place, {Param: true, Index: n}, place, place, place, place, place}[:len(code)%8]})
			}
			procs := []api.Proc{{Ints: n, Locks: n, Code: code}, {Locks: n}, {Code: code[3:]}}
			for _, u := range []api.Unit{{}, {Main: n}, {Procs: procs, Main: n}, {Procs: procs, Main: 2}, {Procs: procs[:1]}} {
				c, errno := instance.Close(u)
				if errno != api.OK && errno != api.ErrTooLarge || len(c.Instances) > api.MaxInstances {
					t.Fatalf("Close(%v) = %d instances, %d", u, len(c.Instances), errno)
				}
				callAll(u, c)
				for _, proc := range numbers {
					for _, locks := range [][]int{nil, {n}, numbers} {
						i := api.Instance{Proc: proc, Locks: locks}
						for _, index := range numbers {
							instance.Mutex(i, api.Place{Param: true, Index: index})
							instance.Mutex(i, api.Place{Index: index})
							instance.Callee(u, i, index)
						}
						instance.Find(c, i)
						callAll(u, api.Closure{Instances: []api.Instance{i, {}, i}, Roots: numbers})
					}
				}
			}
		}
	}
}

func TestLongCode(t *testing.T) { // R1: units with more instructions than any program has
	one := api.Instr{Op: api.InstrCall, Places: []api.Place{{Index: 1}}}
	code := slices.Repeat([]api.Instr{one}, 300000)
	for n := range code {
		code[n].Target = n
	}
	for _, u := range []api.Unit{{Procs: []api.Proc{{Code: code}}}, {Procs: []api.Proc{{Code: code[1:3]}, {Code: code}}}} {
		if c, errno := instance.Close(u); errno != api.ErrTooLarge || len(c.Instances) != 0 {
			t.Errorf("Close = %d instances, %d", len(c.Instances), errno)
		}
	}
}

func TestDeepExpressions(t *testing.T) { // R1: one that is deeper than the stack of calls
	defer debug.SetMaxStack(debug.SetMaxStack(1 << 20))
	e := api.Expr{Op: api.OpNumber, Num: 1}
	for range 300000 {
		e = api.Expr{Op: api.OpNot, Args: []api.Expr{e}}
	}
	i := api.Instr{Op: api.InstrGo, Target: 1, Ints: []api.Expr{e}, Places: []api.Place{{At: []api.Expr{e}}}}
	u := api.Unit{Mutexes: []api.Mutex{{Size: 2}}, Procs: []api.Proc{{Code: []api.Instr{i, i}}, {}}}
	c, errno := instance.Close(u)
	if errno != api.OK || len(c.Instances) != 2 || !slices.Equal(c.Calls[0], []int{1, 1}) || !slices.Equal(c.Roots, []int{0, 1}) {
		t.Errorf("Close = %v, %d", c, errno)
	}
}

func FuzzClose(f *testing.F) { // P13.1 to P13.4
	f.Add(ring)
	f.Add(manyCalls(30, "p(mutex y, mutex z, mutex x);", "main(); "))
	f.Add("mutex a; mutex c[4]; func f(n, mutex m) { if n { go f(1, mutex c[1]); } else { f(n, mutex a); } return; } func main() { go f(1, mutex c[0]); }")
	f.Fuzz(func(t *testing.T, src string) {
		p, _, errno := parse.Program([]byte(src))
		if errno != api.OK {
			return
		}
		if _, _, _, errno := lower.Lower(p); errno != api.OK {
			return
		}
		var count seen
		compare(t, src, &count)
	})
}
