package simulate_test

import (
	"slices"
	"strconv"
	"strings"
	"testing"

	"lockorder/api"
	"lockorder/instance"
	"lockorder/lower"
	"lockorder/machine"
	"lockorder/model"
	"lockorder/parse"
	"lockorder/schedule"
	"lockorder/simulate"
)

const least, most = -1 << 63, 1<<63 - 1

// subject is a program as code, with its closure.
type subject struct {
	source  string
	unit    api.Unit
	closure api.Closure
}

// read returns the subject with this source, and false if it is no program with a closure.
func read(source string) (subject, bool) {
	p, _, errno := parse.Program([]byte(source))
	if errno != api.OK {
		return subject{}, false
	}
	u, _, _, errno := lower.Lower(p)
	if errno != api.OK {
		return subject{}, false
	}
	c, errno := instance.Close(u)
	return subject{source, u, c}, errno == api.OK
}

// mustRead returns the subject with a source that is right.
func mustRead(t *testing.T, source string) subject {
	t.Helper()
	s, is := read(source)
	if !is {
		t.Fatalf("%.200q is no program with a closure", source)
	}
	return s
}

// name returns the instance n as text, such as f(a,b).
func (s subject) name(n int) string {
	i := s.closure.Instances[n]
	var l []string
	for _, m := range i.Locks {
		l = append(l, s.unit.Mutexes[m].Name)
	}
	return s.unit.Procs[i.Proc].Name + "(" + strings.Join(l, ",") + ")"
}

// text returns a configuration as text: the depth and the points, such as 1 main():3 f(a,b):0.
func (s subject) text(x api.Config) string {
	text := strconv.Itoa(x.Depth)
	for _, at := range x.Stack {
		text += " " + s.name(at.Instance) + ":" + strconv.Itoa(at.PC)
	}
	return text
}

// run returns the last state under a schedule that is written with a digit for each pick. Every step must be possible.
func (s subject) run(t *testing.T, picks string) api.State {
	t.Helper()
	var l []int
	for _, digit := range picks {
		l = append(l, int(digit-'0'))
	}
	state, n := schedule.Run(s.unit, l)
	if n != len(l) {
		t.Fatalf("%s: only %d of the steps of %s are possible", s.source, n, picks)
	}
	return state
}

// mutex returns the number of the mutex with a name.
func (s subject) mutex(name string) int {
	return slices.IndexFunc(s.unit.Mutexes, func(m api.Mutex) bool { return m.Name == name })
}

// project returns the configuration of a thread for a mutex as text, and the empty text if there is none.
func (s subject) project(state api.State, thread, m int) string {
	x, is := simulate.Project(s.unit, s.closure, state, thread, m)
	if !is {
		if !model.Same(x, api.Config{}) { // R4
			return "not defined, but " + s.text(x)
		}
		return ""
	}
	return s.text(x)
}

// event returns the kind and the mutex of an event as text, such as unheld a, and the empty text if there is none.
func (s subject) event(state api.State, thread int) string {
	kind, m := simulate.Event(s.unit, s.closure, state, thread)
	switch kind {
	case api.FindUnheld:
		return "unheld " + s.unit.Mutexes[m].Name
	case api.FindSelf:
		return "self " + s.unit.Mutexes[m].Name
	case api.FindOver:
		return "over " + s.unit.Mutexes[m].Name
	}
	if kind != 0 || m != 0 {
		return strconv.Itoa(kind) + " " + strconv.Itoa(m)
	}
	return ""
}

func (s subject) follows(state api.State, thread, m int) bool {
	return simulate.Follows(s.unit, s.closure, state, thread, m)
}

func TestExample(t *testing.T) { // that of the chapter
	s := mustRead(t, "mutex a; rmutex r; mutex c[3]; func f(mutex m) { lock m; } func main() { f(mutex c[1]); lock a; }")
	for m := range s.unit.Mutexes {
		x, is := simulate.Project(s.unit, s.closure, machine.New(s.unit), 0, m)
		if !is || !model.Same(x, model.Begin(s.closure, 0)) {
			t.Errorf("for mutex %d, thread 0 begins with %v, %v", m, x, is)
		}
	}
}

// Programs with calls whose arguments are mutexes, elements, and parameters. In all of them x is 1 at the beginning.
const (
	calls   = "mutex a; rmutex r; mutex c[3]; var x = 1; func main() { lock c[2]; f(mutex a, x, mutex c[x + 1]); unlock a; } func f(mutex m, n, mutex k) { lock m; g(mutex k, mutex r, mutex m); } func g(mutex m, mutex k, mutex l) { unlock m; lock k; lock k; return; }"
	started = "mutex c[2]; mutex a; var x = 1; func main() { go f(mutex c[x]); lock a; lock c[0]; go g(); } func f(mutex m) { lock m; go h(mutex m); } func g() { lock c[x]; } func h(mutex m) { lock a; unlock m; }"
	leaving = "mutex a; rmutex r; var x = 1; func main() { lock r; lock a; lock r; go f(); } func f() { }"
)

func TestProject(t *testing.T) { // P19.1
	for _, c := range []struct {
		source string
		picks  string
		thread int
		mutex  string
		want   string
	}{
		// The depth is that of the mutex, for the thread.
		{calls, "", 0, "a", "0 main():0"},
		{calls, "0", 0, "c", "1 main():1"},
		{calls, "0", 0, "a", "0 main():1"},
		{calls, "0", 0, "r", "0 main():1"},
		// A frame for each activation, whose PC is that of the instruction after the call.
		{calls, "00", 0, "c", "1 main():2 f(a,c):0"},
		{calls, "000", 0, "a", "1 main():2 f(a,c):1"},
		{calls, "0000", 0, "a", "1 main():2 f(a,c):2 g(c,r,a):0"},
		{calls, "00000", 0, "c", "0 main():2 f(a,c):2 g(c,r,a):1"},
		{calls, "000000", 0, "r", "1 main():2 f(a,c):2 g(c,r,a):2"},
		{calls, "0000000", 0, "r", "2 main():2 f(a,c):2 g(c,r,a):3"},
		{calls, "0000000", 0, "a", "1 main():2 f(a,c):2 g(c,r,a):3"},
		{calls, "0000000", 0, "c", "0 main():2 f(a,c):2 g(c,r,a):3"},
		{calls, "00000000", 0, "r", "2 main():2 f(a,c):2"},
		{calls, "000000000", 0, "r", "2 main():2"},
		{calls, "0000000000", 0, "a", "0 main():3"},
		{calls, "0000000000", 0, "r", "2 main():3"},
		// What other threads hold, and where they are, does not matter.
		{started, "0", 0, "c", "0 main():1"},
		{started, "0", 1, "c", "0 f(c):0"},
		{started, "01", 1, "c", "1 f(c):1"},
		{started, "01", 0, "c", "0 main():1"},
		{started, "0100", 0, "c", "1 main():3"},
		{started, "0100", 1, "c", "1 f(c):1"},
		{started, "0100", 1, "a", "0 f(c):1"},
		{started, "0100", 0, "a", "1 main():3"},
		{started, "01000", 2, "c", "0 g():0"},
		{started, "010001", 3, "c", "0 h(c):0"},
		{started, "011000", 2, "a", "0 h(c):0"},
		{started, "011000", 3, "a", "0 g():0"},
		// A thread that has finished has no frames, but it may hold something.
		{leaving, "00000", 0, "a", "1"},
		{leaving, "00000", 0, "r", "2"},
		{leaving, "00000", 1, "r", "0 f():0"},
		{leaving, "000001", 1, "r", "0"},
		// There is no such thread.
		{calls, "", 1, "a", ""},
		{calls, "", -1, "a", ""},
		{calls, "", most, "a", ""},
		{calls, "", least, "a", ""},
		{started, "0", 2, "a", ""},
		{started, "01000", 3, "a", ""},
		{leaving, "00000", 2, "a", ""},
	} {
		s := mustRead(t, c.source)
		state := s.run(t, c.picks)
		if got := s.project(state, c.thread, s.mutex(c.mutex)); got != c.want {
			t.Errorf("%s: after %s, for %s, thread %d is %q; want %q", c.source, c.picks, c.mutex, c.thread, got, c.want)
		}
		if got := s.projected(state, c.thread, s.mutex(c.mutex)); got != c.want {
			t.Errorf("%s: after %s, for %s, the reference has %q for thread %d; want %q", c.source, c.picks, c.mutex, got, c.thread, c.want)
		}
	}
}

// Loops in which a thread locks a reentrant mutex, or the elements of an array, to any depth, and unlocks them again.
const (
	deep = "mutex a; rmutex r; var x = 1; func main() { while x { lock r; x = (x + 1) % 13; } x = 1; while x { unlock r; x = (x + 1) % 13; } }"
	wide = "mutex c[20]; mutex a; var x; func main() { while x < 20 { lock c[x]; x = x + 1; } while x { x = x - 1; unlock c[x]; } }"
)

// depths returns those of a mutex, without repetitions, in a run of thread 0.
func (s subject) depths(t *testing.T, m int) []int {
	t.Helper()
	var l []int
	for state, moves := machine.New(s.unit), true; moves; state, moves = machine.Step(s.unit, state, 0) {
		x, is := simulate.Project(s.unit, s.closure, state, 0, m)
		if !is {
			t.Fatalf("%s: no configuration", s.source)
		}
		l = append(l, x.Depth)
	}
	return slices.Compact(l)
}

func TestCap(t *testing.T) { // P19.1: the depth is at most the cap
	up, down := []int{0, 1, 2, 3, 4, 5, 6, 7, 8}, []int{7, 6, 5, 4, 3, 2, 1, 0}
	for _, c := range []struct {
		source, mutex string
		want          []int
	}{
		{deep, "r", slices.Concat(up, down)},
		{deep, "a", []int{0}},
		{wide, "c", slices.Concat(up, down)},
		{wide, "a", []int{0}},
		{"mutex c[1]; func main() { lock c[0]; unlock c[0]; }", "c", []int{0, 1, 0}},
		{"mutex c[9]; var x; func main() { while x < 9 { lock c[x]; x = x + 1; } }", "c", up},
		{"mutex a; func main() { while 1 { lock a; lock a; } }", "a", []int{0, 1}},
		{"rmutex r; func main() { lock r; lock r; unlock r; }", "r", []int{0, 1, 2, 1}},
	} {
		s := mustRead(t, c.source)
		if got := s.depths(t, s.mutex(c.mutex)); !slices.Equal(got, c.want) {
			t.Errorf("%s: the depths of %s are %v; want %v", c.source, c.mutex, got, c.want)
		}
	}
}

func TestNoInstance(t *testing.T) { // P19.1, R4: one of the instances is not in the closure
	s := mustRead(t, calls)
	state := s.run(t, "0000")
	for _, c := range []struct {
		instances []api.Instance
		is        bool
	}{
		{s.closure.Instances, true},
		{slices.Concat(s.closure.Instances[:3], s.closure.Instances[1:]), true},
		{s.closure.Instances[:2], false},
		{s.closure.Instances[1:], false},
		{nil, false},
		{slices.Concat(s.closure.Instances[:1], s.closure.Instances[2:]), false},
		{append(slices.Clone(s.closure.Instances[:2]), api.Instance{Proc: 2, Locks: []int{2, 1, 1}}), false},
		{append(slices.Clone(s.closure.Instances[:2]), api.Instance{Proc: 2, Locks: []int{2, 1}}), false},
		{append(slices.Clone(s.closure.Instances[:2]), api.Instance{Proc: 2, Locks: []int{4, 1, 0}}), false},
		{append(slices.Clone(s.closure.Instances[:2]), api.Instance{Proc: 2, Locks: []int{2, 1, 0}}), true},
	} {
		x, is := simulate.Project(s.unit, api.Closure{Instances: c.instances}, state, 0, 1)
		if is != c.is || !is && !model.Same(x, api.Config{}) || is && len(x.Stack) != 3 {
			t.Errorf("with the instances %v the configuration is %v, %v", c.instances, x, is)
		}
	}
}

func TestEvent(t *testing.T) { // P19.2
	for _, c := range []struct {
		source string
		picks  string
		thread int
		want   string
	}{
		// An unlock of what the thread does not hold.
		{"mutex b; mutex a; func main() { unlock a; }", "", 0, "unheld a"},
		{"mutex b; rmutex r; func main() { unlock r; }", "", 0, "unheld r"},
		{"mutex b; mutex c[2]; func main() { unlock c[1]; }", "", 0, "unheld c"},
		{"mutex b; mutex c[2]; func main() { unlock c[2]; }", "", 0, "unheld c"},
		{"mutex b; mutex c[2]; func main() { unlock c[1 / 0]; }", "", 0, "unheld c"},
		{"mutex b; mutex a; func main() { lock a; unlock a; unlock a; }", "00", 0, "unheld a"},
		{"mutex b; mutex a; func main() { lock b; unlock a; }", "0", 0, "unheld a"},
		{"mutex b; rmutex r; func main() { lock r; lock r; unlock r; unlock r; unlock r; }", "0000", 0, "unheld r"},
		{"mutex a; func f() { unlock a; } func main() { lock a; go f(); }", "00", 1, "unheld a"},
		// An unlock of what it does hold.
		{"mutex b; mutex a; func main() { lock a; unlock a; }", "0", 0, ""},
		{"rmutex r; func main() { lock r; lock r; unlock r; unlock r; }", "00", 0, ""},
		{"rmutex r; func main() { lock r; lock r; unlock r; unlock r; }", "000", 0, ""},
		// It is the depth of the whole array that counts.
		{"mutex c[2]; func main() { lock c[0]; unlock c[1]; }", "0", 0, ""},
		{"mutex c[2]; func main() { lock c[0]; unlock c[7]; }", "0", 0, ""},
		{"mutex c[2]; mutex d[2]; func main() { lock c[0]; unlock d[0]; }", "0", 0, "unheld d"},
		// A lock of a plain scalar that the thread holds.
		{"mutex b; mutex a; func main() { lock a; lock a; }", "0", 0, "self a"},
		{"mutex b; mutex a; func main() { lock a; lock b; lock a; }", "00", 0, "self a"},
		{"mutex b; mutex a; func main() { lock b; lock a; }", "0", 0, ""},
		{"mutex b; mutex a; func main() { lock a; unlock a; lock a; }", "00", 0, ""},
		{"mutex b; mutex a; func main() { lock a; }", "", 0, ""},
		// What another thread holds is none, whether this one has to wait or not.
		{"mutex a; func f() { lock a; } func main() { lock a; go f(); }", "00", 1, ""},
		{"mutex a; func f() { lock a; } func main() { go f(); lock a; }", "01", 0, ""},
		{"rmutex r; func f() { lock r; } func main() { lock r; lock r; lock r; lock r; lock r; lock r; lock r; lock r; go f(); }", "000000000", 1, ""},
		// A lock of another mutex, to any depth up to the cap.
		{"rmutex r; func main() { lock r; lock r; }", "0", 0, ""},
		{"mutex c[2]; func main() { lock c[1]; lock c[1]; }", "0", 0, ""},
		{"mutex c[1]; func main() { lock c[0]; lock c[0]; }", "0", 0, ""},
		{"mutex c[2]; func main() { lock c[1]; lock c[0]; }", "0", 0, ""},
		{"mutex c[2]; func main() { lock c[2]; }", "", 0, ""},
		// Other instructions, and none.
		{"mutex a; func f(mutex m) { unlock m; } func main() { f(mutex a); }", "", 0, ""},
		{"mutex a; func f(mutex m) { unlock m; } func main() { go f(mutex a); }", "", 0, ""},
		{"mutex a; func f(mutex m) { lock m; } func main() { lock a; f(mutex a); }", "0", 0, ""},
		{"mutex a; func f() { return; } func main() { lock a; f(); }", "00", 0, ""},
		{"mutex a; var x; func main() { lock a; x = 1; if x { } while x { } }", "0", 0, ""},
		{"mutex a; var x; func main() { lock a; x = 1; if x { } while x { } }", "00", 0, ""},
		{"mutex a; var x; func main() { lock a; x = 1; if x { } while x { } }", "000", 0, ""},
		{"mutex a; var x; func main() { lock a; x = 1; if x { } while x { } }", "0000", 0, ""},
		{"mutex a; func main() { lock a; }", "00", 0, ""},
		{"mutex a; func main() { unlock a; }", "", 1, ""},
		{"mutex a; func main() { unlock a; }", "", -1, ""},
		{"mutex a; func main() { unlock a; }", "", most, ""},
		{"mutex a; func main() { unlock a; }", "", least, ""},
		// There is a Fault.
		{"mutex a; func main() { unlock a; }", "0", 0, ""},
		{"mutex a; func f() { unlock a; } func main() { go f(); unlock a; }", "00", 1, ""},
		{"mutex b; mutex a; func main() { lock a; if 1 / 0 { } lock a; }", "00", 0, ""},
		// Parameters stand for what the last frame says.
		{"mutex b; mutex a; func f(mutex m, mutex k) { lock k; lock k; } func main() { f(mutex b, mutex a); }", "00", 0, "self a"},
		{"mutex b; mutex a; func f(mutex m, mutex k) { lock k; lock m; } func main() { f(mutex b, mutex a); }", "00", 0, ""},
		{"mutex b; mutex a; func f(mutex m, mutex k) { lock k; lock m; } func main() { f(mutex a, mutex a); }", "00", 0, "self a"},
		{"mutex b; mutex a; func f(mutex m) { unlock m; } func main() { lock a; f(mutex b); }", "00", 0, "unheld b"},
		{"mutex b; mutex a; func f(mutex m) { unlock m; } func main() { lock a; f(mutex a); }", "00", 0, ""},
		{"mutex b; mutex c[3]; mutex a; func f(mutex m) { unlock m; } func main() { f(mutex a); }", "0", 0, "unheld a"},
		{"mutex b; mutex c[3]; mutex a; func f(mutex m) { unlock m; } func main() { lock c[0]; f(mutex c[2]); }", "00", 0, ""},
		{"mutex b; mutex c[3]; mutex a; func f(mutex m) { unlock m; } func main() { lock a; f(mutex c[2]); }", "00", 0, "unheld c"},
		{"mutex b; mutex c[3]; mutex a; func g(mutex m, mutex k) { unlock k; } func f(mutex m, mutex k) { g(mutex k, mutex m); } func main() { f(mutex a, mutex c[2]); }", "00", 0, "unheld a"},
		{"mutex b; mutex c[3]; mutex a; func f(mutex m) { unlock m; } func main() { lock b; go f(mutex b); }", "00", 1, "unheld b"},
	} {
		s := mustRead(t, c.source)
		state := s.run(t, c.picks)
		if got := s.event(state, c.thread); got != c.want {
			t.Errorf("%s: after %s, the event of thread %d is %q; want %q", c.source, c.picks, c.thread, got, c.want)
		}
		if got := s.eventByNames(state, c.thread); got != c.want {
			t.Errorf("%s: after %s, the reference has the event %q; want %q", c.source, c.picks, got, c.want)
		}
	}
}

func TestEventOver(t *testing.T) { // P19.2: at the depth MaxDepth and above
	for _, c := range []struct {
		source string
		over   string
		least  int // the depth from which on there are events
	}{
		{"rmutex r; func main() { while 1 { lock r; } }", "over r", 8},
		{"mutex a; mutex c[64]; var x; func main() { while 1 { lock c[x]; x = x + 1; } }", "over c", 8},
		{"mutex a; mutex c[9]; var x; func main() { while 1 { lock c[x]; x = x + 1; } }", "over c", 8},
		{"mutex a; mutex c[8]; var x; func main() { while 1 { lock c[x]; x = x + 1; } }", "over c", 8},
		{"mutex a; mutex c[7]; var x; func main() { while 1 { lock c[x]; x = x + 1; } }", "", 8},
		{"mutex b; rmutex r; func f(mutex m) { lock m; f(mutex m); } func main() { f(mutex r); }", "over r", 8},
		{"mutex b; mutex a; func f(mutex m) { lock m; f(mutex m); } func main() { f(mutex a); }", "self a", 1},
	} {
		s := mustRead(t, c.source)
		m := len(s.unit.Mutexes) - 1
		met := ""
		state := machine.New(s.unit)
		for range 100 {
			d := s.held(state, 0, s.unit.Mutexes[m].Name)
			want := ""
			if instr, is := machine.Instruction(s.unit, state, 0); is && instr.Op == api.InstrLock && d >= c.least {
				want = c.over
			}
			if got := s.event(state, 0); got != want {
				t.Fatalf("%s: at the depth %d, the event is %q; want %q", c.source, d, got, want)
			}
			met = max(met, want)
			state, _ = machine.Step(s.unit, state, 0)
		}
		if met != c.over {
			t.Errorf("%s: there was no event", c.source)
		}
	}
}

func TestUnlockAboveCap(t *testing.T) { // P19.2, P19.3: above the cap, an unlock is no event, and the model says nothing
	for _, source := range []string{deep, wide} {
		s := mustRead(t, source)
		unlocks := 0
		for state, moves := machine.New(s.unit), true; moves; state, moves = machine.Step(s.unit, state, 0) {
			instr, is := machine.Instruction(s.unit, state, 0)
			for m, x := range s.unit.Mutexes {
				if !s.follows(state, 0, m) {
					t.Errorf("%s: the step at the depth %d does not follow", source, s.held(state, 0, x.Name))
				}
			}
			if is && instr.Op == api.InstrUnlock {
				unlocks++
				if got := s.event(state, 0); got != "" {
					t.Errorf("%s: after %d unlocks there is the event %s", source, unlocks, got)
				}
			}
		}
		if unlocks < 12 {
			t.Errorf("%s: only %d unlocks", source, unlocks)
		}
	}
}

func TestFollows(t *testing.T) { // P19.3, P19.4: steps of each kind
	for _, c := range []struct {
		source, picks string
		thread        int
	}{
		{calls, "", 0}, {calls, "0", 0}, {calls, "00", 0}, {calls, "000", 0}, {calls, "0000", 0}, {calls, "00000", 0}, {calls, "0000000", 0}, {calls, "00000000", 0}, {calls, "0000000000", 0},
		{started, "", 0}, {started, "0", 1}, {started, "01", 1}, {started, "011000", 2}, {started, "010001", 3},
		// The step is not possible: there is no such thread, it has finished, it waits, or there is a Fault.
		{calls, "", 1}, {calls, "", -1}, {calls, "", most}, {calls, "", least},
		{leaving, "00000", 0},
		{"mutex a; func f() { lock a; } func main() { lock a; go f(); }", "00", 1},
		{"mutex a; func main() { lock a; lock a; }", "0", 0},
		{"mutex c[2]; func main() { lock c[0]; lock c[0]; }", "0", 0},
		{"mutex a; func main() { unlock a; }", "0", 0},
		// It leads to a Fault.
		{"mutex a; func main() { unlock a; }", "", 0},
		{"mutex c[2]; func main() { lock c[0]; unlock c[1]; }", "0", 0},
		{"mutex c[2]; func main() { lock c[2]; }", "", 0},
		{"mutex a; var x; func main() { lock a; x = 1 / x; }", "0", 0},
		{"mutex a; var x; func main() { lock a; if 1 / x { } }", "0", 0},
		{"mutex c[2]; var x; func f(n, mutex m) { } func main() { f(1 / x, mutex c[0]); }", "", 0},
		{"mutex c[2]; var x; func f(n, mutex m) { } func main() { go f(x, mutex c[x - 1]); }", "", 0},
		{"mutex a; func f() { } func main() { while 1 { go f(); } }", strings.Repeat("000", 31) + "0", 0},
		// It is an event for a mutex.
		{"rmutex r; mutex a; func main() { while 1 { lock r; } }", strings.Repeat("000", 8) + "0", 0},
		{wide, strings.Repeat("0000", 8) + "0", 0},
	} {
		s := mustRead(t, c.source)
		state := s.run(t, c.picks)
		for m := range s.unit.Mutexes {
			if !s.follows(state, c.thread, m) {
				t.Errorf("%s: after %s, for mutex %d, the step of thread %d does not follow", c.source, c.picks, m, c.thread)
			}
		}
	}
}

// wrong is a unit with a closure of which the calls or the instances have been changed, so that steps no longer agree with the model.
type wrong struct {
	source, picks string
	change        func(c *api.Closure)
	follows       bool
}

func TestNotFollows(t *testing.T) { // P19.3: what is compared, and what is not, shown by closures that are not those of the units
	call := func(site, callee int) func(c *api.Closure) {
		return func(c *api.Closure) { c.Calls[0][site] = callee }
	}
	second := func(c *api.Closure) { c.Instances = c.Instances[:2] }
	const twoCalls = "mutex a; mutex b; var x; func f(mutex m) { unlock m; } func main() { lock a; f(mutex a); f(mutex b); }"
	for _, c := range []wrong{
		{twoCalls, "0", call(1, 1), true},
		{twoCalls, "0", call(1, 2), false},
		{twoCalls, "0", call(1, 0), false},
		{twoCalls, "0", call(1, -1), false},
		{twoCalls, "0", call(2, 1), true},
		{twoCalls, "", call(1, 2), true},
		{twoCalls, "00", call(1, 2), true},
		{twoCalls, "0000", call(2, 2), true},
		{twoCalls, "0000", call(2, 1), false},
		{twoCalls, "0000", second, false},
		{twoCalls, "000", second, true},
		{twoCalls, "0", second, true},
		// Nothing is compared if the step is not possible,
		{"mutex a; func f(mutex m) { } func main() { f(mutex a); }", "000", func(c *api.Closure) { *c = api.Closure{} }, true},
		{"mutex a; func main() { lock a; lock a; }", "0", func(c *api.Closure) { *c = api.Closure{} }, true},
		// leads to a Fault,
		{"mutex c[2]; func f(mutex m) { } func main() { f(mutex c[2]); }", "", call(0, 0), true},
		{"mutex c[2]; func f(mutex m) { } func main() { f(mutex c[1]); }", "", call(0, 0), false},
		{"mutex c[2]; func main() { lock c[2]; }", "", func(c *api.Closure) { *c = api.Closure{} }, true},
		// is an event for the mutex,
		{"rmutex r; func main() { lock r; lock r; lock r; lock r; lock r; lock r; lock r; lock r; lock r; }", "00000000", func(c *api.Closure) { *c = api.Closure{} }, true},
		{"rmutex r; func main() { lock r; lock r; lock r; lock r; lock r; lock r; lock r; lock r; lock r; }", "0000000", func(c *api.Closure) { *c = api.Closure{} }, false},
		// or if the thread holds it to a depth above its cap.
		{"rmutex r; func f() { } func main() { lock r; lock r; lock r; lock r; lock r; lock r; lock r; lock r; lock r; f(); }", "000000000", call(9, 0), true},
		{"rmutex r; func f() { } func main() { lock r; lock r; lock r; lock r; lock r; lock r; lock r; lock r; unlock r; f(); }", "000000000", call(9, 0), false},
		{"rmutex r; func f() { } func main() { lock r; lock r; lock r; lock r; lock r; lock r; lock r; lock r; f(); }", "00000000", call(8, 0), false},
		{"mutex c[9]; var x; func f() { } func main() { while x < 9 { lock c[x]; x = x + 1; } f(); }", strings.Repeat("0000", 9) + "0", call(4, 0), true},
		{"mutex c[9]; var x; func f() { } func main() { while x < 8 { lock c[x]; x = x + 1; } f(); }", strings.Repeat("0000", 8) + "0", call(4, 0), false},
		{"mutex a; func f() { } func main() { lock a; f(); }", "0", call(1, 0), false},
	} {
		s := mustRead(t, c.source)
		c.change(&s.closure)
		if got := s.follows(s.run(t, c.picks), 0, 0); got != c.follows {
			t.Errorf("%s: after %s, with the closure %v, the step follows: %v", c.source, c.picks, s.closure, got)
		}
	}
}

func TestOtherMutex(t *testing.T) { // P19.3: an event, or a depth above the cap, of one mutex does not matter for another one
	const source = "mutex a; rmutex r; rmutex k; func f() { } func main() { lock r; lock r; lock r; lock r; lock r; lock r; lock r; lock r; lock r; f(); }"
	for _, c := range []struct {
		picks   string
		follows [3]bool
	}{
		{"00000000", [3]bool{false, true, false}},
		{"000000000", [3]bool{false, true, false}},
		{"0000000", [3]bool{false, false, false}},
	} {
		s := mustRead(t, source)
		state := s.run(t, c.picks)
		s.closure.Instances = nil
		for m, want := range c.follows {
			if got := s.follows(state, 0, m); got != want {
				t.Errorf("after %s, for mutex %d, the step follows: %v", c.picks, m, got)
			}
		}
	}
}
