package waits_test

import (
	"slices"
	"testing"

	"lockorder/api"
	"lockorder/lower"
	"lockorder/parse"
	"lockorder/schedule"
	"lockorder/waits"
)

const least, most = -1 << 63, 1<<63 - 1

// mustLower returns the code of a text that is a right program.
func mustLower(t *testing.T, s string) api.Unit {
	t.Helper()
	p, n, errno := parse.Program([]byte(s))
	if errno != api.OK {
		t.Fatalf("Program(%.80q) = %d, %d", s, n, errno)
	}
	u, f, n, errno := lower.Lower(p)
	if errno != api.OK {
		t.Fatalf("Lower(%.80q) = %d, %d, %d", s, f, n, errno)
	}
	return u
}

// after returns the state after a schedule all of whose steps must be possible.
func after(t *testing.T, u api.Unit, picks []int) api.State {
	t.Helper()
	s, n := schedule.Run(u, picks)
	if n != len(picks) {
		t.Fatalf("only %d of the steps %v are possible", n, picks)
	}
	return s
}

// wait says that a thread waits for an element, and who holds it.
type wait struct{ thread, element, holder int }

// facts are what the functions say about a state.
type facts struct {
	waiting           []wait
	enabled           []int
	deadlocked, cycle []int
}

// check tests all functions for a state, and Waiting and Enabled also for threads that do not exist.
func check(t *testing.T, what string, u api.Unit, s api.State, want facts) {
	t.Helper()
	others := []int{least, -api.MaxThreads, -1, len(s.Threads), len(s.Threads) + 1, api.MaxThreads, api.MaxThreads + 1, 1 << 32, most}
	for thread := range len(s.Threads) {
		others = append(others, thread)
	}
	for _, thread := range others {
		var w wait
		is := slices.ContainsFunc(want.waiting, func(x wait) bool { w = x; return x.thread == thread })
		if !is {
			w = wait{}
		}
		if element, holder, ok := waits.Waiting(u, s, thread); element != w.element || holder != w.holder || ok != is {
			t.Fatalf("%s: Waiting of the thread %d = %d, %d, %v; want %d, %d, %v", what, thread, element, holder, ok, w.element, w.holder, is)
		}
		if is := slices.Contains(want.enabled, thread); waits.Enabled(u, s, thread) != is {
			t.Fatalf("%s: Enabled of the thread %d is not %v", what, thread, is)
		}
	}
	if l := waits.Deadlocked(u, s); !slices.Equal(l, want.deadlocked) {
		t.Fatalf("%s: Deadlocked = %v; want %v", what, l, want.deadlocked)
	}
	if l := waits.Cycle(u, s); !slices.Equal(l, want.cycle) {
		t.Fatalf("%s: Cycle = %v; want %v", what, l, want.cycle)
	}
	if is := len(want.enabled) == 0; waits.Quiet(u, s) != is {
		t.Fatalf("%s: Quiet is not %v", what, is)
	}
}

// crossed is the program of the example, after which the thread 0 may end.
const crossed = "mutex a; mutex b; func f() { lock b; lock a; } func main() { go f(); lock a; lock b; }"

// step is a program whose cases differ in one statement of main, beside a thread that holds a, r and c[1].
func step(statements string) string {
	return "var x; mutex a; rmutex r; mutex c[3]; rmutex q; func g(n, mutex m) { lock m; lock c[n]; } func f() { lock a; lock r; lock c[1]; while 1 { } } func main() { go f(); " + statements + " }"
}

// busy are the steps after which main of such a program has its first statement.
var busy = []int{0, 1, 1, 1}

func then(more ...int) []int { return append(slices.Clone(busy), more...) }

var cases = []struct {
	program string
	picks   []int
	want    facts
}{
	{"func main() { }", nil, facts{enabled: []int{0}}},
	{"func main() { }", []int{0}, facts{}},
	{crossed, nil, facts{enabled: []int{0}}},
	{crossed, []int{0, 0}, facts{enabled: []int{0, 1}}},
	{crossed, []int{0, 0, 0}, facts{waiting: []wait{{1, 1, 0}}, enabled: []int{0}}},
	{crossed, []int{0, 0, 1}, facts{waiting: []wait{{0, 1, 1}, {1, 0, 0}}, deadlocked: []int{0, 1}, cycle: []int{0, 1}}},
	// A thread waits also for what a finished thread holds, which is no deadlock.
	{crossed, []int{0, 0, 0, 0}, facts{waiting: []wait{{1, 1, 0}}}},
	{crossed, []int{0, 1, 1, 1}, facts{waiting: []wait{{0, 0, 1}}}},
	// It may wait for itself.
	{"mutex a; func main() { lock a; lock a; }", []int{0}, facts{waiting: []wait{{0, 0, 0}}, deadlocked: []int{0}, cycle: []int{0}}},
	{"mutex b; mutex c[4]; func main() { lock c[2]; lock c[2]; }", []int{0}, facts{waiting: []wait{{0, 3, 0}}, deadlocked: []int{0}, cycle: []int{0}}},
	// But not for a reentrant mutex, at any depth.
	{"rmutex r; func main() { lock r; lock r; }", []int{0}, facts{enabled: []int{0}}},
	{"rmutex r; func main() { while 1 { lock r; } }", slices.Repeat([]int{0}, 3*api.MaxDepth*3+1), facts{enabled: []int{0}}},
	// The instructions that are no InstrLock never wait.
	{step("x = 1;"), busy, facts{enabled: []int{0, 1}}},
	{step("g(0, mutex a);"), busy, facts{enabled: []int{0, 1}}},
	{step("go g(0, mutex a);"), busy, facts{enabled: []int{0, 1}}},
	{step("unlock a;"), busy, facts{enabled: []int{0, 1}}},
	{step("unlock q;"), busy, facts{enabled: []int{0, 1}}},
	{step("unlock c[1];"), busy, facts{enabled: []int{0, 1}}},
	{step("if x { lock a; }"), busy, facts{enabled: []int{0, 1}}},
	{step("if !x { lock a; } else { }"), then(0, 1), facts{waiting: []wait{{0, 0, 1}}, enabled: []int{1}}},
	{step("if !x { } else { lock a; }"), then(0, 1), facts{enabled: []int{0, 1}}},
	{step("return; lock a;"), busy, facts{enabled: []int{0, 1}}},
	{step("return; lock a;"), then(0), facts{enabled: []int{1}}},
	// Nor do those whose evaluation has a fault.
	{step("lock c[3];"), busy, facts{enabled: []int{0, 1}}},
	{step("lock c[-1];"), busy, facts{enabled: []int{0, 1}}},
	{step("lock c[1 / x];"), busy, facts{enabled: []int{0, 1}}},
	// What is free for the thread, and what is not.
	{step("lock q;"), busy, facts{enabled: []int{0, 1}}},
	{step("lock c[0];"), busy, facts{enabled: []int{0, 1}}},
	{step("lock c[2];"), busy, facts{enabled: []int{0, 1}}},
	{step("lock a;"), busy, facts{waiting: []wait{{0, 0, 1}}, enabled: []int{1}}},
	{step("lock r;"), busy, facts{waiting: []wait{{0, 1, 1}}, enabled: []int{1}}},
	{step("lock c[1];"), busy, facts{waiting: []wait{{0, 3, 1}}, enabled: []int{1}}},
	// An Index with a global variable, or with local ones of the last frame.
	{step("lock c[x * 2 + 1];"), busy, facts{waiting: []wait{{0, 3, 1}}, enabled: []int{1}}},
	{step("x = 1; lock c[x * 2 + 1];"), then(0), facts{enabled: []int{0, 1}}},
	{step("var i = 1; lock c[i];"), then(0), facts{waiting: []wait{{0, 3, 1}}, enabled: []int{1}}},
	{step("var i = 1; g(i + 1, mutex q);"), then(0, 0, 0), facts{enabled: []int{0, 1}}},
	{step("var i = 2; g(i - 1, mutex q);"), then(0, 0, 0), facts{waiting: []wait{{0, 3, 1}}, enabled: []int{1}}},
	// A mutex parameter stands for an element that does not change.
	{step("g(0, mutex c[0]);"), then(0), facts{enabled: []int{0, 1}}},
	{step("g(0, mutex c[1]);"), then(0), facts{waiting: []wait{{0, 3, 1}}, enabled: []int{1}}},
	{step("g(0, mutex r);"), then(0), facts{waiting: []wait{{0, 1, 1}}, enabled: []int{1}}},
	{step("go g(0, mutex c[x + 1]); x = 1;"), then(0, 0), facts{waiting: []wait{{2, 3, 1}}, enabled: []int{0, 1}}},
	// After a fault, no thread waits, and none is enabled.
	{step("lock c[3];"), then(0), facts{}},
	{"mutex a; mutex b; var x; func f() { lock b; lock a; } func h() { x = 1 / x; } func main() { go f(); go h(); lock a; lock b; }", []int{0, 0, 0, 1}, facts{waiting: []wait{{0, 1, 1}, {1, 0, 0}}, enabled: []int{2}, deadlocked: []int{0, 1}, cycle: []int{0, 1}}},
	{"mutex a; mutex b; var x; func f() { lock b; lock a; } func h() { x = 1 / x; } func main() { go f(); go h(); lock a; lock b; }", []int{0, 0, 0, 1, 2}, facts{}},
	// One that starts a thread is enabled even if there are too many.
	{"func main() { while 1 { go main(); } }", append(slices.Repeat([]int{0, 0, 0}, api.MaxThreads-1), 0), facts{enabled: upTo(api.MaxThreads)}},
}

// upTo returns the numbers from 0 on that are less than n.
func upTo(n int) []int {
	var l []int
	for i := range n {
		l = append(l, i)
	}
	return l
}

func TestStates(t *testing.T) { // P11.1, P11.2, P11.3
	for _, c := range cases {
		u := mustLower(t, c.program)
		check(t, c.program, u, after(t, u, c.picks), c.want)
	}
}

func TestExample(t *testing.T) { // that of the chapter
	u := mustLower(t, crossed)
	if l := waits.Cycle(u, after(t, u, []int{0, 0, 1})); !slices.Equal(l, []int{0, 1}) {
		t.Errorf("Cycle = %v", l)
	}
}

func TestWhileItGoesOn(t *testing.T) { // P11.1, P11.2: a thread waits until the other one has unlocked the mutex
	u := mustLower(t, "rmutex r; mutex a; func f() { lock r; unlock r; lock a; } func main() { go f(); lock r; lock a; lock r; unlock r; unlock r; lock a; }")
	waiting := facts{waiting: []wait{{1, 0, 0}}, enabled: []int{0}}
	for i, want := range []facts{{enabled: []int{0}}, {enabled: []int{0, 1}}, waiting, waiting, waiting, waiting, {waiting: []wait{{0, 1, 0}}, enabled: []int{1}, deadlocked: []int{0}, cycle: []int{0}}} {
		check(t, crossed, u, after(t, u, slices.Repeat([]int{0}, i)), want)
	}
	check(t, crossed, u, after(t, u, []int{0, 0, 0, 0, 0, 0, 1, 1}), facts{waiting: []wait{{0, 1, 0}, {1, 1, 0}}, deadlocked: []int{0, 1}, cycle: []int{0}})
}

func TestGlobalIndex(t *testing.T) { // P11.4: only an Index with a global variable lets a deadlock end
	const program = "var x; mutex c[4]; func f() { lock c[1]; lock c[0]; } func g() { x = 2; x = 3; x = 0; } func main() { go f(); go g(); lock c[0]; lock c[x + 1]; }"
	u := mustLower(t, program)
	picks := []int{0, 0, 0, 1}
	both := facts{waiting: []wait{{0, 1, 1}, {1, 0, 0}}, enabled: []int{2}, deadlocked: []int{0, 1}, cycle: []int{0, 1}}
	free := facts{waiting: []wait{{1, 0, 0}}, enabled: []int{0, 2}}
	for _, want := range []facts{both, free, free, both} {
		check(t, program, u, after(t, u, picks), want)
		picks = append(picks, 2)
	}
	both.enabled = nil
	check(t, program, u, after(t, u, picks), both)
	// A local variable does not change while the thread waits.
	const local = "var x; mutex c[4]; func f() { lock c[1]; lock c[0]; } func g() { x = 2; x = 3; x = 0; } func main() { var i = x + 1; go f(); go g(); lock c[0]; lock c[i]; }"
	u, picks = mustLower(t, local), []int{0, 0, 0, 0, 1, 2, 2}
	check(t, local, u, after(t, u, picks), facts{waiting: both.waiting, enabled: []int{2}, deadlocked: both.deadlocked, cycle: both.cycle})
}
