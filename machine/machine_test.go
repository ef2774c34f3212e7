package machine_test

import (
	"reflect"
	"slices"
	"testing"

	"lockorder/api"
	"lockorder/lower"
	"lockorder/machine"
	"lockorder/parse"
)

const least, most = -1 << 63, 1<<63 - 1

// mustLower returns the code of a text that is a right program.
func mustLower(t *testing.T, s string) api.Unit {
	t.Helper()
	p, n, errno := parse.Program([]byte(s))
	if errno != api.OK {
		t.Fatalf("Program(%.80q) = %d, %d", s, n, errno)
	}
	u, f, n, errno := lower.Lower(p)
	if errno != api.OK {
		t.Fatalf("Lower(%.80q) = %d, %d, %d", s, f, n, errno)
	}
	return u
}

// clone returns a copy of a state that shares no memory with it.
func clone(s api.State) api.State {
	s.Globals, s.Table, s.Threads = slices.Clone(s.Globals), slices.Clone(s.Table), slices.Clone(s.Threads)
	for i := range s.Threads {
		frames := slices.Clone(s.Threads[i].Frames)
		for j, f := range frames {
			frames[j].Ints, frames[j].Locks = slices.Clone(f.Ints), slices.Clone(f.Locks)
		}
		s.Threads[i].Frames = frames
	}
	return s
}

// run is a run of a program, which goes on with each test of a step.
type run struct {
	t *testing.T
	u api.Unit
	s api.State
}

func begin(t *testing.T, s string) *run {
	t.Helper()
	u := mustLower(t, s)
	return &run{t, u, machine.New(u)}
}

// change is a part of the difference between two states.
type change func(s *api.State)

func pc(thread, n int) change {
	return func(s *api.State) { last(s, thread).PC = n }
}

func local(thread, number, n int) change {
	return func(s *api.State) { last(s, thread).Ints[number] = n }
}

func global(number, n int) change {
	return func(s *api.State) { s.Globals[number] = n }
}

func hold(element, owner, depth int) change {
	return func(s *api.State) { s.Table[element] = api.Hold{Owner: owner, Depth: depth} }
}

func fails(fault int) change {
	return func(s *api.State) { s.Fault = fault }
}

func enter(thread int, f api.Frame) change {
	return func(s *api.State) { s.Threads[thread].Frames = append(s.Threads[thread].Frames, f) }
}

func leave(thread int) change {
	return func(s *api.State) {
		s.Threads[thread].Frames = s.Threads[thread].Frames[:len(s.Threads[thread].Frames)-1]
	}
}

func start(f api.Frame) change {
	return func(s *api.State) { s.Threads = append(s.Threads, api.Thread{Frames: []api.Frame{f}}) }
}

func last(s *api.State, thread int) *api.Frame {
	frames := s.Threads[thread].Frames
	return &frames[len(frames)-1]
}

// step tests that a step of a thread is possible and makes exactly these changes.
func (r *run) step(thread int, changes ...change) {
	r.t.Helper()
	want := clone(r.s)
	for _, c := range changes {
		c(&want)
	}
	next, ok := machine.Step(r.u, r.s, thread)
	if !ok || text(next) != text(want) {
		r.t.Fatalf("a step of the thread %d makes %v, %v of %v; want %v", thread, next, ok, r.s, want)
	}
	if !machine.Same(next, want) || machine.Same(next, r.s) != (text(next) == text(r.s)) {
		r.t.Errorf("Same is wrong for %v, %v and %v", next, want, r.s)
	}
	r.s = next
}

// steps carries out steps that must be possible.
func (r *run) steps(threads ...int) {
	r.t.Helper()
	for i, thread := range threads {
		next, ok := machine.Step(r.u, r.s, thread)
		if !ok || next.Fault != 0 {
			r.t.Fatalf("the step %d, of the thread %d, makes %v, %v", i, thread, next, ok)
		}
		r.s = next
	}
}

// noStep tests that no step of a thread is possible.
func (r *run) noStep(thread int) {
	r.t.Helper()
	if next, ok := machine.Step(r.u, r.s, thread); ok || text(next) != text(r.s) {
		r.t.Errorf("a step of the thread %d makes %v, %v of %v; want no step", thread, next, ok, r.s)
	}
}

// nothing tests that a thread has no instruction.
func (r *run) nothing(thread int) {
	r.t.Helper()
	r.noStep(thread)
	if i, ok := machine.Instruction(r.u, r.s, thread); ok || !reflect.DeepEqual(i, api.Instr{}) {
		r.t.Errorf("in %v, the instruction of the thread %d is %v, %v", r.s, thread, i, ok)
	}
	for _, p := range []api.Place{{}, {Index: 1}, {Index: 1, At: []api.Expr{{Op: api.OpNumber, Num: 1}}}, {Param: true}} {
		if n, f := machine.Element(r.u, r.s, thread, p); n != 0 || f != 0 {
			r.t.Errorf("in %v, the element of %v is %d, %d for the thread %d", r.s, p, n, f, thread)
		}
	}
}

// instruction tests that the instruction of a thread is this one of the procedure.
func (r *run) instruction(thread, proc, n int) {
	r.t.Helper()
	i, ok := machine.Instruction(r.u, r.s, thread)
	if !ok || !reflect.DeepEqual(i, r.u.Procs[proc].Code[n]) {
		r.t.Errorf("in %v, the instruction of the thread %d is %v, %v", r.s, thread, i, ok)
	}
}

// element tests Element of a place of a thread.
func (r *run) element(thread int, p api.Place, want, fault int) {
	r.t.Helper()
	if n, f := machine.Element(r.u, r.s, thread, p); n != want || f != fault {
		r.t.Errorf("in %v, the element of %v is %d, %d for the thread %d; want %d, %d", r.s, p, n, f, thread, want, fault)
	}
}

// own returns the place of the instruction of a thread.
func (r *run) own(thread int) api.Place {
	i, _ := machine.Instruction(r.u, r.s, thread)
	return i.Place
}

func TestExample(t *testing.T) { // that of the chapter
	r := begin(t, "mutex a; func main() { lock a; lock a; }")
	r.step(0, hold(0, 1, 1), pc(0, 1))
	r.noStep(0)
}

func TestNew(t *testing.T) { // P9.1
	for s, want := range map[string]api.State{
		"func main() { }": {Threads: []api.Thread{{Frames: []api.Frame{{}}}}},
		"func f(n) { } var x; mutex a; var y = -7; rmutex r; mutex c[2]; func main() { var i = 5; if i { var j = 6; } }":        {Globals: []int{0, -7}, Table: make([]api.Hold, 4), Threads: []api.Thread{{Frames: []api.Frame{{Proc: 1, Ints: []int{0, 0}}}}}},
		"var x = 9223372036854775807; func main() { main(); } mutex d[64]; func g(mutex m, n) { var k = 1; } mutex a; mutex b;": {Globals: []int{most}, Table: make([]api.Hold, 66), Threads: []api.Thread{{Frames: []api.Frame{{}}}}},
	} {
		u := mustLower(t, s)
		if state := machine.New(u); text(state) != text(want) || !machine.Same(state, want) || !machine.Valid(u, state) {
			t.Errorf("New of %q = %v; want %v", s, state, want)
		}
	}
}

// sample returns a state in which no list is empty, and no number twice in one list.
func sample() api.State {
	return api.State{
		Globals: []int{1, 2},
		Table:   []api.Hold{{Owner: 1, Depth: 2}, {Owner: 3, Depth: 4}},
		Threads: []api.Thread{
			{Frames: []api.Frame{{Proc: 1, PC: 2, Ints: []int{3, 4}, Locks: []int{5, 6}}, {Proc: 2, PC: 3, Ints: []int{4, 5}, Locks: []int{6, 7}}}},
			{Frames: []api.Frame{{Proc: 3, PC: 4, Ints: []int{5, 6}, Locks: []int{7, 8}}}},
		},
		Fault: 1,
	}
}

// variants calls see for sample with one number changed, or one list longer or shorter, and says what has been changed.
func variants(see func(what string, s api.State)) {
	s := sample()
	varied(reflect.ValueOf(&s).Elem(), "state", func(what string) { see(what, clone(s)) })
}

func varied(v reflect.Value, what string, see func(what string)) {
	switch v.Kind() {
	case reflect.Int:
		n := v.Int()
		for _, other := range []int64{n + 1, n - 1, -n, n + 1<<32, least, most} {
			v.SetInt(other)
			see(what)
		}
		v.SetInt(n)
	case reflect.Struct:
		for i := range v.NumField() {
			varied(v.Field(i), what+" "+v.Type().Field(i).Name, see)
		}
	case reflect.Slice:
		whole := reflect.ValueOf(v.Interface())
		whole = whole.Slice3(0, whole.Len(), whole.Len()) // so that the two longer lists share nothing
		zero, one := reflect.Zero(v.Type().Elem()), min(whole.Len(), 1)
		lists := []reflect.Value{whole.Slice(0, 0), whole.Slice(0, whole.Len()-one), whole.Slice(one, whole.Len()), reflect.Append(whole, zero), reflect.AppendSlice(whole, whole.Slice(0, one))}
		for _, l := range lists {
			v.Set(l)
			see(what + " length")
		}
		v.Set(whole)
		for i := range v.Len() {
			varied(v.Index(i), what, see)
		}
		if v.Len() > 1 {
			reflect.Swapper(v.Interface())(0, 1)
			see(what + " order")
			reflect.Swapper(v.Interface())(0, 1)
		}
	}
}

func TestSame(t *testing.T) { // P9.1
	count := 0
	variants(func(what string, s api.State) {
		count++
		if machine.Same(s, sample()) || machine.Same(sample(), s) || !machine.Same(s, clone(s)) {
			t.Errorf("Same is wrong for another %s: %v", what, s)
		}
	})
	if count < 200 || !machine.Same(sample(), sample()) || text(sample()) != text(clone(sample())) {
		t.Errorf("%d variants", count)
	}
}

func TestSameEmpty(t *testing.T) { // P9.1, R5
	thread := api.Thread{Frames: []api.Frame{}}
	full := api.State{Globals: []int{}, Table: []api.Hold{}, Threads: []api.Thread{thread, {Frames: []api.Frame{{Ints: []int{}, Locks: []int{}}}}}}
	null := api.State{Threads: []api.Thread{{}, {Frames: []api.Frame{{}}}}}
	if !machine.Same(full, null) || !machine.Same(null, full) || !machine.Same(api.State{}, api.State{Threads: []api.Thread{}}) {
		t.Error("nil and empty lists are not the same")
	}
	if machine.Same(api.State{}, api.State{Threads: []api.Thread{thread}}) || machine.Same(api.State{Threads: []api.Thread{thread}}, null) {
		t.Error("a finished thread is one")
	}
}

func TestInstruction(t *testing.T) { // P9.2
	r := begin(t, "var x; mutex a; mutex c[2]; func f(n, mutex m) { lock m; x = n + -x; unlock m; } func main() { f(x + 7, mutex c[x + 1]); go f(1, mutex a); while x < 1 { } }")
	for _, thread := range []int{-1, 1, 2, 32, least, most} {
		r.nothing(thread)
	}
	r.instruction(0, 1, 0)
	for n := range 4 {
		r.steps(0)
		r.instruction(0, 0, n)
	}
	r.steps(0)
	r.instruction(0, 1, 1)
	r.nothing(1)
	r.steps(0)
	r.instruction(0, 1, 2)
	r.instruction(1, 0, 0)
	r.steps(1, 1)
	r.instruction(0, 1, 2)
	r.instruction(1, 0, 2)
	r.steps(1, 1)
	r.nothing(1)
	r.nothing(2)
	r.steps(0)
	r.instruction(0, 1, 3)
	r.steps(0, 0)
	r.instruction(0, 1, 3)
}

func TestFinished(t *testing.T) { // P9.2, P9.3: a thread without frames
	r := begin(t, "mutex a; mutex c[2]; func main() { }")
	r.step(0, leave(0))
	r.nothing(0)
	r.nothing(-1)
	r.nothing(1)
}

func TestElement(t *testing.T) { // P9.2
	r := begin(t, "var x; mutex a; mutex c[3]; rmutex r; mutex e[1]; func f(mutex m, n, mutex l) { lock m; unlock l; unlock c[n]; } func main() { var i = 2; x = 1; f(mutex c[i], 0, mutex r); lock e[0]; }")
	r.steps(0, 0)
	number := func(n int) []api.Expr { return []api.Expr{{Op: api.OpNumber, Num: n}} }
	for _, thread := range []int{-1, 1} {
		r.element(thread, api.Place{Index: 1, At: number(1)}, 0, 0)
	}
	r.element(0, api.Place{}, 0, 0)
	for n, want := range []int{1, 2, 3} {
		r.element(0, api.Place{Index: 1, At: number(n)}, want, 0)
	}
	for _, n := range []int{-1, 3, 4, least, most} {
		r.element(0, api.Place{Index: 1, At: number(n)}, 0, api.FaultIndex)
	}
	r.element(0, api.Place{Index: 2}, 4, 0)
	r.element(0, api.Place{Index: 3, At: number(0)}, 5, 0)
	r.element(0, api.Place{Index: 3, At: number(1)}, 0, api.FaultIndex)
	zero := api.Expr{Op: api.OpRemainder, Args: append(number(0), number(0)...)}
	r.element(0, api.Place{Index: 3, At: []api.Expr{zero}}, 0, api.FaultZero)
	ofLocal, ofGlobal := []api.Expr{{Op: api.OpLocal}}, []api.Expr{{Op: api.OpGlobal}}
	r.element(0, api.Place{Index: 1, At: ofLocal}, 3, 0)
	r.element(0, api.Place{Index: 1, At: ofGlobal}, 2, 0)
	r.steps(0)
	r.element(0, api.Place{Index: 1, At: ofLocal}, 1, 0) // the local variable of the last frame
	r.element(0, api.Place{Index: 1, At: ofGlobal}, 2, 0)
	r.element(0, api.Place{Param: true}, 3, 0)
	r.element(0, api.Place{Param: true, Index: 1}, 4, 0)
	for _, want := range []int{3, 4, 1} {
		r.element(0, r.own(0), want, 0)
		r.s.Threads[0].Frames[1].PC++
	}
	r.steps(0)
	r.element(0, r.own(0), 5, 0)
}

func TestSet(t *testing.T) { // P9.3
	r := begin(t, "var x; var y = 5; func main() { var i = 2; y = i * 3; var j = i - y; x = j; i = i + 1; j = 9223372036854775807 + i; }")
	r.step(0, local(0, 0, 2), pc(0, 1))
	r.step(0, global(1, 6), pc(0, 2))
	r.step(0, local(0, 1, -4), pc(0, 3))
	r.step(0, global(0, -4), pc(0, 4))
	r.step(0, local(0, 0, 3), pc(0, 5))
	r.step(0, local(0, 1, least+2), pc(0, 6))
	r.step(0, leave(0))
}

func TestCall(t *testing.T) { // P9.3
	r := begin(t, "var x = 4; mutex a; mutex c[2]; func f(n, mutex m, k, mutex l) { n = k; var i = n; f(x, mutex l, i, mutex m); } func main() { var i = 3; f(i + 1, mutex c[1], x, mutex a); i = 7; }")
	r.step(0, local(0, 0, 3), pc(0, 1))
	r.step(0, pc(0, 2), enter(0, api.Frame{Proc: 0, Ints: []int{4, 4, 0}, Locks: []int{2, 0}}))
	r.s.Threads[0].Frames[1].Ints[1] = 8
	r.step(0, local(0, 0, 8), pc(0, 1))
	r.step(0, local(0, 2, 8), pc(0, 2))
	r.step(0, pc(0, 3), enter(0, api.Frame{Proc: 0, Ints: []int{4, 8, 0}, Locks: []int{0, 2}}))
	r.step(0, local(0, 0, 8), pc(0, 1))
	r.s.Threads[0].Frames[2].PC = 3
	r.step(0, leave(0))
	r.step(0, leave(0))
	r.step(0, local(0, 0, 7), pc(0, 3))
}

func TestGo(t *testing.T) { // P9.3
	r := begin(t, "var x = 4; mutex a; mutex c[2]; func g() { go f(5, mutex c[0]); } func f(n, mutex m) { var i = n; lock m; } func main() { go g(); go f(x, mutex a); x = 6; go g(); }")
	r.step(0, pc(0, 1), start(api.Frame{}))
	r.step(1, pc(1, 1), start(api.Frame{Proc: 1, Ints: []int{5, 0}, Locks: []int{1}}))
	r.step(0, pc(0, 2), start(api.Frame{Proc: 1, Ints: []int{4, 0}, Locks: []int{0}}))
	r.step(3, local(3, 1, 4), pc(3, 1))
	r.step(0, global(0, 6), pc(0, 3))
	r.step(3, hold(0, 4, 1), pc(3, 2))
	r.step(3, leave(3))
	r.nothing(3)
	r.step(2, local(2, 1, 5), pc(2, 1))
	r.step(0, pc(0, 4), start(api.Frame{})) // behind a thread that has finished
	r.step(0, leave(0))
	r.nothing(0)
	r.step(4, pc(4, 1), start(api.Frame{Proc: 1, Ints: []int{5, 0}, Locks: []int{1}}))
}

func TestLock(t *testing.T) { // P9.3
	r := begin(t, "mutex a; rmutex r; mutex c[2]; func f(mutex m) { lock m; lock r; unlock m; } func main() { go f(mutex c[1]); lock c[0]; lock r; lock r; lock c[1]; unlock r; unlock r; unlock c[0]; lock a; lock a; }")
	r.step(0, pc(0, 1), start(api.Frame{Locks: []int{3}}))
	r.step(0, hold(2, 1, 1), pc(0, 2))
	r.step(1, hold(3, 2, 1), pc(1, 1))
	r.step(0, hold(1, 1, 1), pc(0, 3))
	r.noStep(1)
	r.step(0, hold(1, 1, 2), pc(0, 4))
	r.noStep(0)
	r.noStep(1)
	r.instruction(0, 1, 4)
	r.instruction(1, 0, 1)
	r.s.Threads[0].Frames[0].PC++
	r.step(0, hold(1, 1, 1), pc(0, 6))
	r.noStep(1)
	r.step(0, hold(1, 0, 0), pc(0, 7))
	r.step(1, hold(1, 2, 1), pc(1, 2))
	r.step(1, hold(3, 0, 0), pc(1, 3))
	r.step(1, leave(1)) // it still holds r
	r.step(0, hold(2, 0, 0), pc(0, 8))
	r.step(0, hold(0, 1, 1), pc(0, 9))
	r.noStep(0)
	r.noStep(1)
}

func TestDeepLock(t *testing.T) { // P9.3: Depth has no limit in this layer
	r := begin(t, "rmutex r; func main() { while 1 { lock r; } }")
	for depth := 1; depth < 3*api.MaxDepth; depth++ {
		r.step(0, pc(0, 1))
		r.step(0, hold(0, 1, depth), pc(0, 2))
		r.step(0, pc(0, 0))
	}
}

func TestUnlock(t *testing.T) { // P9.3: what a thread does not hold
	r := begin(t, "mutex a; func f() { unlock a; } func main() { go f(); lock a; unlock a; unlock a; }")
	r.step(0, pc(0, 1), start(api.Frame{}))
	held := begin(t, "mutex a; func f() { unlock a; } func main() { go f(); lock a; unlock a; unlock a; }")
	held.steps(0, 0)
	held.step(1, fails(api.FaultUnlock)) // another one holds it
	r.steps(0, 0)
	free := *r
	r.step(0, fails(api.FaultUnlock))
	free.step(1, fails(api.FaultUnlock))
	for _, x := range []*run{held, r, &free} {
		x.nothing(0)
		x.nothing(1)
	}
}

func TestBranch(t *testing.T) { // P9.3
	r := begin(t, "var x; func main() { if x { x = 1; } else { x = 2; } while x - 1 { x = x - 1; } if -x { return; } }")
	r.step(0, pc(0, 3))
	r.step(0, global(0, 2), pc(0, 4))
	r.step(0, pc(0, 5))
	r.step(0, global(0, 1), pc(0, 6))
	r.step(0, pc(0, 4))
	r.step(0, pc(0, 7))
	r.step(0, pc(0, 8))
	r.step(0, leave(0))
	r = begin(t, "var x = 7; func main() { if x { x = 1; } else { x = 2; } }")
	r.step(0, pc(0, 1))
	r.step(0, global(0, 1), pc(0, 2))
	r.step(0, pc(0, 4))
	r.step(0, leave(0))
}

func TestReturn(t *testing.T) { // P9.3
	r := begin(t, "var x; func g() { return; x = 1; } func main() { g(); x = 2; }")
	r.step(0, pc(0, 1), enter(0, api.Frame{}))
	r.step(0, leave(0))
	r.step(0, global(0, 2), pc(0, 2))
	r.step(0, leave(0))
	r.nothing(0)
}

func TestFaults(t *testing.T) { // P9.3: an evaluation or an element has a fault, the first one from the left
	for s, want := range map[string]int{
		"x = 1 / x;":                                api.FaultZero,
		"var i = 5 % (x * 2);":                      api.FaultZero,
		"if 1 / x { }":                              api.FaultZero,
		"while x % x { }":                           api.FaultZero,
		"lock c[3];":                                api.FaultIndex,
		"lock c[x - 1];":                            api.FaultIndex,
		"lock c[1 / x];":                            api.FaultZero,
		"unlock c[3];":                              api.FaultIndex,
		"unlock c[1 % x];":                          api.FaultZero,
		"unlock c[2];":                              api.FaultUnlock,
		"unlock a;":                                 api.FaultUnlock,
		"unlock r;":                                 api.FaultUnlock,
		"f(1 / x, mutex c[0], mutex c[1]);":         api.FaultZero,
		"f(1, mutex c[3], mutex c[1]);":             api.FaultIndex,
		"f(1, mutex c[0], mutex c[-1]);":            api.FaultIndex,
		"f(1, mutex c[0], mutex c[1 / x]);":         api.FaultZero,
		"f(1, mutex c[3], mutex c[1 / x]);":         api.FaultIndex,
		"f(1, mutex c[1 / x], mutex c[3]);":         api.FaultZero,
		"f(1 / x, mutex c[3], mutex c[3]);":         api.FaultZero,
		"g(mutex c[3], 1 / x);":                     api.FaultZero,
		"go g(mutex c[3], 1 / x);":                  api.FaultZero,
		"go g(mutex c[3], 1 || 1 / x);":             api.FaultIndex,
		"go f(1 / x, mutex c[0], mutex c[1]);":      api.FaultZero,
		"go f(1, mutex c[0], mutex c[3]);":          api.FaultIndex,
		"go f(1, mutex c[3], mutex c[1 / x]);":      api.FaultIndex,
		"go f(1, mutex c[1 / x], mutex c[3]);":      api.FaultZero,
		"go f(1 && 1 / x, mutex c[3], mutex c[3]);": api.FaultZero,
	} {
		r := begin(t, "var x; mutex a; rmutex r; mutex c[3]; func f(n, mutex m, mutex l) { } func g(mutex m, n) { } func main() { "+s+" }")
		r.step(0, fails(want))
		r.nothing(0)
		r.nothing(1)
	}
}

func TestManyThreads(t *testing.T) { // P9.3: the fault of too many threads comes after the evaluations
	for s, want := range map[string]int{
		"go f(0, mutex c[0]);": api.FaultThreads, "go f(1 / x, mutex c[0]);": api.FaultZero, "go f(0, mutex c[9]);": api.FaultIndex, "go main();": api.FaultThreads,
	} {
		r := begin(t, "var x; mutex c[2]; func f(n, mutex m) { } func main() { while 1 { "+s+" } }")
		r.steps(0)
		for len(r.s.Threads) < api.MaxThreads {
			// The threads that have finished count too.
			r.s.Threads = append(r.s.Threads, api.Thread{})
			if len(r.s.Threads) < api.MaxThreads && want == api.FaultThreads {
				one := *r
				one.s = clone(r.s)
				one.steps(0)
				if len(one.s.Threads) != len(r.s.Threads)+1 {
					t.Errorf("after the start of a thread, %v is %v", r.s, one.s)
				}
			}
		}
		r.step(0, fails(want))
		r.nothing(0)
	}
	r := begin(t, "func main() { while 1 { go main(); } }")
	for n := 1; n < api.MaxThreads; n++ {
		r.step(0, pc(0, 1))
		r.step(0, pc(0, 2), start(api.Frame{}))
		r.step(0, pc(0, 0))
	}
	r.steps(0, 31, 17)
	for _, thread := range []int{0, 17, 31} {
		other := *r
		other.step(thread, fails(api.FaultThreads))
		other.nothing(thread)
		other.nothing(1)
	}
}

func TestNoCallLimit(t *testing.T) { // P9.3: calls do not count as threads
	r := begin(t, "func main() { main(); }")
	for range 500 {
		r.step(0, pc(0, 1), enter(0, api.Frame{}))
	}
	if !machine.Valid(r.u, r.s) {
		t.Error("a state with many frames is not valid")
	}
}
