package machine_test

import (
	"fmt"
	"math/rand"
	"reflect"
	"runtime/debug"
	"slices"
	"strings"
	"testing"

	"lockorder/api"
	"lockorder/lower"
	"lockorder/machine"
	"lockorder/parse"
)

// compare tests Instruction, Element and Step of a thread against the reference, which it changes, and the consequences of P9.5. It returns the next state, and whether the step is possible.
func compare(t *testing.T, w *world, s api.State, thread int) (api.State, bool) {
	t.Helper()
	compareInstruction(t, w, s, thread)
	want := w.step(thread)
	next, ok := machine.Step(w.unit, s, thread)
	state := w.state()
	if ok != want || text(next) != text(state) {
		t.Fatalf("a step of the thread %d makes %v, %v of %v; want %v, %v", thread, next, ok, s, state, want)
	}
	if !machine.Valid(w.unit, next) || !machine.Same(next, state) || machine.Same(next, s) != (text(next) == text(s)) {
		t.Fatalf("Valid or Same is wrong for %v after %v", next, s)
	}
	sameForOthers(t, s, next, thread)
	return next, ok
}

// compareInstruction tests Instruction of a thread, and Element of the places of its instruction.
func compareInstruction(t *testing.T, w *world, s api.State, thread int) {
	t.Helper()
	i, ok := machine.Instruction(w.unit, s, thread)
	want := w.current(thread)
	if want == nil {
		n, f := machine.Element(w.unit, s, thread, api.Place{Index: len(w.unit.Mutexes) - 1})
		if ok || !reflect.DeepEqual(i, api.Instr{}) || n != 0 || f != 0 {
			t.Fatalf("the thread %d in %v has the instruction %v, %v and the element %d, %d", thread, s, i, ok, n, f)
		}
		return
	}
	if !ok || !reflect.DeepEqual(i, *want) {
		t.Fatalf("the instruction of the thread %d in %v is %v, %v; want %v", thread, s, i, ok, *want)
	}
	places := i.Places
	if i.Op == api.InstrLock || i.Op == api.InstrUnlock {
		places = []api.Place{i.Place}
	}
	for _, p := range places {
		n, f := w.element(thread, p)
		if element, fault := machine.Element(w.unit, s, thread, p); element != n || fault != f {
			t.Fatalf("the element of %v for the thread %d in %v is %d, %d; want %d, %d", p, thread, s, element, fault, n, f)
		}
	}
}

// sameForOthers tests that a step of a thread has changed neither the frames of other threads nor what they hold, and that after a fault there is none.
func sameForOthers(t *testing.T, before, after api.State, thread int) {
	t.Helper()
	same := len(after.Threads) >= len(before.Threads) && (before.Fault == 0 || text(before) == text(after))
	for i, other := range before.Threads {
		same = same && (i == thread || fmt.Sprint(other) == fmt.Sprint(after.Threads[i]))
	}
	own := []int{0, thread + 1}
	for element, was := range before.Table {
		is := after.Table[element]
		same = same && (is == was || slices.Contains(own, was.Owner) && slices.Contains(own, is.Owner))
	}
	if !same {
		t.Fatalf("a step of the thread %d makes %v of %v", thread, after, before)
	}
}

func TestAllSmallPrograms(t *testing.T) { // P9.1 to P9.5: all schedules of two threads with few statements
	statements := []string{"", "x = 0;", "lock a;", "unlock a;", "lock r;", "unlock r;", "lock c[x];", "unlock c[1];", "f(0, mutex c[x]);", "f(x, mutex a);", "if x { x = 2; }", "while x { x = x - 1; }", "return;"}
	steps := 0
	var walk func(w *world, s api.State, n int)
	walk = func(w *world, s api.State, n int) {
		for thread := -1; n > 0 && thread < 3; thread++ {
			other := w.copied()
			steps++
			if next, ok := compare(t, other, s, thread); ok {
				walk(other, next, n-1)
			}
		}
	}
	for _, one := range statements {
		for _, two := range statements {
			for _, other := range []string{"lock m; x = 2 / n;", "unlock m;", "lock m; lock c[1]; lock r; lock r;"} {
				u := mustLower(t, "var x = 1; mutex a; rmutex r; mutex c[2]; func main() { go f(1, mutex c[0]);"+one+two+"} func f(n, mutex m) {"+other+"}")
				w := newWorld(u)
				s, _ := compare(t, w, machine.New(u), 0)
				walk(w, s, 6)
			}
		}
	}
	if steps < 40000 {
		t.Errorf("only %d steps", steps)
	}
}

// seen counts what happens in runs.
type seen struct {
	ops, faults [9]int
	waits       int
	threads     int // the greatest number
	frames      int // the greatest number of a thread
}

// randomRun carries out steps of threads by chance, mostly of threads that there are.
func randomRun(t *testing.T, r *rand.Rand, u api.Unit, n int, count *seen) {
	t.Helper()
	w, s := newWorld(u), machine.New(u)
	if text(s) != text(w.state()) {
		t.Fatalf("New = %v; want %v", s, w.state())
	}
	var ok bool
	for range n {
		thread := r.Intn(len(s.Threads)+1) - r.Intn(2)
		if r.Intn(3) == 0 {
			thread = 0 // which alone has the loop that starts threads without end
		}
		i := w.current(thread)
		s, ok = compare(t, w, s, thread)
		switch {
		case ok && s.Fault == 0:
			count.ops[i.Op]++
		case ok:
			count.faults[s.Fault]++
		case i != nil:
			count.waits++
		}
		if s.Fault != 0 && r.Intn(4) == 0 {
			return
		}
		for _, x := range s.Threads {
			count.frames = max(count.frames, len(x.Frames))
		}
		count.threads = max(count.threads, len(s.Threads))
	}
}

func TestRandomRuns(t *testing.T) { // P9.1 to P9.5
	m := maker{r: rand.New(rand.NewSource(1))}
	var count seen
	for range 500 {
		u := mustLower(t, m.program())
		for range 2 {
			randomRun(t, m.r, u, 200, &count)
		}
	}
	for op := api.InstrSet; op <= api.InstrReturn; op++ {
		if count.ops[op] < 500 {
			t.Errorf("only %d instructions with the Op %d", count.ops[op], op)
		}
	}
	for f := api.FaultZero; f <= api.FaultThreads; f++ {
		if count.faults[f] < 15 {
			t.Errorf("only %d faults %d", count.faults[f], f)
		}
	}
	if count.waits < 500 || count.threads != api.MaxThreads || count.frames < 10 {
		t.Errorf("%v", count)
	}
}

func TestLongRuns(t *testing.T) { // P9.3: programs whose results are known
	for s, want := range map[string]int{
		"func fib(n) { if n < 2 { x = x + n; return; } fib(n - 1); fib(n - 2); } func main() { fib(9); }": 34,
		"func main() { var i = 1; var s = 0; while i <= 10 { s = s + i * i; i = i + 1; } x = s; }":        385,
		"func move(n, mutex from, mutex to, mutex by) { if n { move(n - 1, mutex from, mutex by, mutex to); lock from; x = x + 1; unlock from; move(n - 1, mutex by, mutex to, mutex from); } } mutex c[3]; func main() { move(5, mutex c[0], mutex c[1], mutex c[2]); }": 31,
		"func main() { var a = 252; var b = 105; while b { var c = a % b; a = b; b = c; } x = a; }": 21,
	} {
		u := mustLower(t, "var x; "+s)
		state := machine.New(u)
		for range 3000 {
			state, _ = machine.Step(u, state, 0)
		}
		if state.Fault != 0 || len(state.Threads[0].Frames) != 0 || !slices.Equal(state.Globals, []int{want}) {
			t.Errorf("the run of %q ends in %v; want %d", s, state, want)
		}
	}
}

func TestValidInRuns(t *testing.T) { // P9.4: a state of a run with one number out of its range
	r := sampleRun(t)
	wrong := 0
	varied(reflect.ValueOf(&r.s).Elem(), "", func(what string) {
		s := clone(r.s)
		want := valid(r.u, s)
		if machine.Valid(r.u, s) != want {
			t.Errorf("with another %s, %v is valid: %v", what, s, !want)
		}
		wrong += one(!want)
	})
	if wrong < 100 {
		t.Errorf("only %d states are not valid", wrong)
	}
}

// valid is P9.4, written as ranges of all numbers of a state.
func valid(u api.Unit, s api.State) bool {
	in := func(n, low, high int) bool { return low <= n && n <= high }
	elements := len((&world{unit: u}).places())
	ok := in(len(s.Globals), len(u.Globals), len(u.Globals)) && in(len(s.Table), elements, elements) && in(len(s.Threads), 1, 32) && in(s.Fault, 0, 4)
	for i := range min(len(s.Table), elements) {
		h, deepest := s.Table[i], 1
		if p := (&world{unit: u}).places()[i]; u.Mutexes[p.mutex].Reentrant {
			deepest = most
		}
		ok = ok && (h == api.Hold{} || in(h.Owner, 1, len(s.Threads)) && in(h.Depth, 1, deepest))
	}
	for _, thread := range s.Threads {
		for _, f := range thread.Frames {
			if !in(f.Proc, 0, len(u.Procs)-1) {
				return false
			}
			p := u.Procs[f.Proc]
			ok = ok && in(f.PC, 0, len(p.Code)-1) && len(f.Ints) == p.Locals && len(f.Locks) == p.Locks
			for _, n := range f.Locks {
				ok = ok && in(n, 0, elements-1)
			}
		}
	}
	return ok
}

// visit calls see for every item of every slice in v, as far as the capacities reach, and clears what it has seen if clear is true.
func visit(v reflect.Value, see func(item reflect.Value), clear bool) {
	switch v.Kind() {
	case reflect.Struct:
		for i := range v.NumField() {
			visit(v.Field(i), see, clear)
		}
	case reflect.Slice:
		all := v.Slice(0, v.Cap())
		for i := range all.Len() {
			see(all.Index(i))
			visit(all.Index(i), see, clear)
			if clear {
				all.Index(i).SetZero()
			}
		}
	}
}

// roomy returns a copy of a list with room for further items, in which there is something.
func roomy[T any](l []T, other T) []T {
	return append(slices.Clone(l), other, other)[:len(l)]
}

// roomyState returns a copy of a state with room in all lists.
func roomyState(s api.State) api.State {
	s = clone(s)
	for i := range s.Threads {
		frames := s.Threads[i].Frames
		for j, f := range frames {
			frames[j].Ints, frames[j].Locks = roomy(f.Ints, 7), roomy(f.Locks, 7)
		}
		s.Threads[i].Frames = roomy(frames, api.Frame{Proc: 7})
	}
	s.Globals, s.Table, s.Threads = roomy(s.Globals, 7), roomy(s.Table, api.Hold{Owner: 7}), roomy(s.Threads, api.Thread{})
	return s
}

// everything returns the items of all lists of a state, as far as the capacities reach.
func everything(s api.State) string {
	var l []string
	visit(reflect.ValueOf(&s).Elem(), func(item reflect.Value) { l = append(l, fmt.Sprint(item)) }, false)
	return strings.Join(l, " ")
}

func TestMemory(t *testing.T) { // R2, R3: nothing is changed, kept or shared, and the results are the same again
	m := maker{r: rand.New(rand.NewSource(2))}
	for range 150 {
		source := m.program()
		u, original := mustLower(t, source), mustLower(t, source)
		s := roomyState(machine.New(u))
		for range 40 {
			thread := m.r.Intn(len(s.Threads)+1) - m.r.Intn(2)
			before, whole := text(s), everything(s)
			first := machine.New(u)
			next, ok := machine.Step(u, s, thread)
			last, again := machine.Step(u, s, thread)
			i, _ := machine.Instruction(u, s, thread)
			machine.Element(u, s, thread, i.Place)
			machine.Valid(u, s)
			machine.Same(s, next)
			if ok != again || text(next) != text(last) || text(first) != text(machine.New(original)) {
				t.Fatalf("a step of the thread %d of %v makes %v, and then %v", thread, s, next, last)
			}
			kept := clone(next)
			addresses := map[uintptr]bool{}
			arguments := func(item reflect.Value) { addresses[item.Addr().Pointer()] = true }
			results := func(item reflect.Value) {
				if addresses[item.Addr().Pointer()] {
					t.Fatalf("a result for %v of %q shares memory", s, source)
				}
				addresses[item.Addr().Pointer()] = true
			}
			visit(reflect.ValueOf(&u).Elem(), arguments, false)
			visit(reflect.ValueOf(&s).Elem(), arguments, false)
			visit(reflect.ValueOf(&first).Elem(), results, true)
			visit(reflect.ValueOf(&next).Elem(), results, true)
			visit(reflect.ValueOf(&last).Elem(), results, true)
			visit(reflect.ValueOf(&i).Elem(), results, true)
			if !reflect.DeepEqual(u, original) || text(s) != before || everything(s) != whole {
				t.Fatalf("%s has become %v, or %v %v", before, s, original, u)
			}
			s = roomyState(kept)
		}
	}
}

// callAll calls all functions, for arguments for which they may return anything.
func callAll(u api.Unit, s api.State, thread int) {
	machine.New(u)
	machine.Valid(u, s)
	machine.Instruction(u, s, thread)
	for _, p := range []api.Place{{}, {Index: thread}, {Index: 1, At: make([]api.Expr, 2)}, {Param: true}, {Param: true, Index: thread}} {
		machine.Element(u, s, thread, p)
	}
	next, _ := machine.Step(u, s, thread)
	machine.Same(next, s)
	machine.Valid(u, next)
	machine.Instruction(u, next, thread)
	machine.Step(u, next, thread)
}

func TestUnspecified(t *testing.T) { // R1, R6: units that are no code of a program, and states of other units
	numbers := []int{least, -2, -1, 0, 1, 2, 3, 40, 1 << 40, most}
	expressions := []api.Expr{{}, {Op: api.OpLocal, Num: -1}, {Op: api.OpGlobal, Num: most}, {Op: api.OpDivide}, {Op: 99, Args: make([]api.Expr, 3)}}
	for _, n := range numbers {
		var code []api.Instr
		for op := -1; op <= 9; op++ {
			for _, target := range numbers {
				place := api.Place{Param: target%2 == 0, Index: target, At: expressions}
				code = append(code, api.Instr{Op: op, Target: target, Global: n > 0, Expr: expressions[len(code)%5], Ints: expressions[:len(code)%3], Places: []api.Place{place}[:len(code)%2], Place: place})
			}
		}
		units := []api.Unit{{}, {Main: n}, {Procs: []api.Proc{{Ints: n, Locks: n, Locals: n, Code: code}, {Locals: n}}, Main: n % 2, Mutexes: []api.Mutex{{Size: n}, {Reentrant: true}}, Globals: []int{1}}}
		units = append(units, units[2])
		units[3].Mutexes, units[3].Globals = nil, nil
		for _, u := range units {
			for pc := range len(code) + 1 {
				for _, locks := range [][]int{nil, {n}, {0, 1, 2}} {
					frames := []api.Frame{{Proc: n, PC: n}, {PC: pc, Ints: locks, Locks: locks}}
					s := api.State{Globals: locks, Table: []api.Hold{{Owner: 2, Depth: n}, {Owner: n, Depth: 1}}, Threads: []api.Thread{{}, {Frames: frames}, {Frames: frames[:1]}}}
					callAll(u, s, 1)
					s.Fault = n
					callAll(u, s, n)
				}
			}
		}
	}
}

func TestDeepExpressions(t *testing.T) { // R1: expressions and frames that are deeper than the stack of calls
	defer debug.SetMaxStack(debug.SetMaxStack(1 << 20))
	e := api.Expr{Op: api.OpNumber, Num: 1}
	for range 300000 {
		e = api.Expr{Op: api.OpNot, Args: []api.Expr{e}}
	}
	p := api.Place{At: []api.Expr{e}}
	for _, i := range []api.Instr{{Op: api.InstrSet, Expr: e}, {Op: api.InstrCall, Ints: []api.Expr{e}, Places: []api.Place{p}}, {Op: api.InstrLock, Place: p}, {Op: api.InstrBranch, Expr: e, Target: 1}} {
		u := api.Unit{Globals: []int{1}, Mutexes: []api.Mutex{{Size: 2}}, Procs: []api.Proc{{Locals: 1, Locks: 1, Code: []api.Instr{i, {Op: api.InstrReturn}}}}}
		callAll(u, machine.New(u), 0)
	}
	long := strings.Repeat("!(", 5) + "x" + strings.Repeat(" + 1", 1800) + strings.Repeat(")", 5)
	u := mustLower(t, "var x; func main() { x = "+long+"; }")
	if next, ok := machine.Step(u, machine.New(u), 0); !ok || next.Globals[0] != 0 || next.Fault != 0 {
		t.Errorf("a long expression makes %v, %v", next, ok)
	}
}

func FuzzStep(f *testing.F) { // P9.1 to P9.5
	f.Add("var x; mutex a[2]; func f(n, mutex m) { lock m; x = x / n; unlock m; } func main() { go f(1, mutex a[x]); f(x, mutex a[1]); }", []byte{0, 1, 0, 1, 0, 1, 0, 2, 0})
	f.Add("rmutex r; func main() { while 1 { lock r; go main(); unlock r; } }", []byte("\x00\x00\x00\x00\x01\x01\x00\x01\x00\x00"))
	f.Fuzz(func(t *testing.T, src string, picks []byte) {
		p, _, errno := parse.Program([]byte(src))
		if errno != api.OK {
			return
		}
		u, _, _, errno := lower.Lower(p)
		if errno != api.OK {
			return
		}
		w, s := newWorld(u), machine.New(u)
		for _, pick := range picks[:min(len(picks), 200)] {
			s, _ = compare(t, w, s, int(pick)-1)
		}
	})
}
