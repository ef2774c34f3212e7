package finding_test

import (
	"fmt"
	"math/rand"
	"slices"
	"strings"
	"testing"

	"lockorder/api"
	"lockorder/finding"
	"lockorder/machine"
	"lockorder/simulate"
	"lockorder/waits"
)

// moment is a state of a run, with the instances in which its threads have begun.
type moment struct {
	state api.State
	roots []int
}

// runs follows the runs of a program.
type runs struct {
	subject
	all   []api.Finding
	list  []moment
	known map[string]bool
	tried *tried
}

// tried counts what the runs of programs have.
type tried struct {
	states, cleanStates      int
	clean, guarded, cut      int // programs without findings, those of them with a cycle that has a gate, and programs with too many states
	deadlocks, leaks, events int
	ended, faults, waited    int // states of clean programs in which all threads have finished, there is a Fault, or a thread waits
}

// followRuns tests P23.5, and what it follows from, in all states that can be reached without events, or in some of them.
func (s subject) followRuns(t *testing.T, tried *tried) {
	t.Helper()
	x := &runs{subject: s, all: finding.All(s.unit, s.closure), known: map[string]bool{}, tried: tried}
	if len(x.all) == 0 {
		tried.clean++
		_, gated := s.expected().cycles()
		tried.guarded += min(gated, 1)
	}
	x.add(moment{machine.New(s.unit), []int{0}})
	for n := 0; n < len(x.list); n++ {
		if n == 800 {
			tried.cut++
			return
		}
		tried.states++
		x.testState(t, x.list[n])
		x.step(t, x.list[n])
	}
}

func (x *runs) add(m moment) {
	if key := fmt.Sprint(m); !x.known[key] {
		x.known[key] = true
		x.list = append(x.list, m)
	}
}

// has reports whether there is such a finding.
func (x *runs) has(want api.Finding) bool {
	return slices.ContainsFunc(x.all, func(f api.Finding) bool { return slices.Equal(asList(f), asList(want)) })
}

// at returns the number of the instance of a frame.
func (x *runs) at(f api.Frame) int {
	var mutexes []int
	for m, mutex := range x.unit.Mutexes {
		for range max(mutex.Size, 1) {
			mutexes = append(mutexes, m)
		}
	}
	return slices.IndexFunc(x.closure.Instances, func(i api.Instance) bool {
		return i.Proc == f.Proc && slices.EqualFunc(i.Locks, f.Locks, func(m, element int) bool { return mutexes[element] == m })
	})
}

// step adds the moments that follow on one. Each event on the way is a finding.
func (x *runs) step(t *testing.T, m moment) {
	t.Helper()
	for thread, threadState := range m.state.Threads {
		if kind, mutex := simulate.Event(x.unit, x.closure, m.state, thread); kind != 0 {
			last := threadState.Frames[len(threadState.Frames)-1]
			if want := (api.Finding{Kind: kind, Instance: x.at(last), PC: last.PC, Lock: mutex}); !x.has(want) {
				t.Fatalf("%.3000s: thread %d meets %s in %v, but found are %s", x.source, thread, x.text(want), m.state, x.texts(x.all))
			}
			x.tried.events++
			continue
		}
		next, moves := machine.Step(x.unit, m.state, thread)
		if !moves {
			continue
		}
		roots := m.roots
		if len(next.Threads) > len(m.state.Threads) {
			started := next.Threads[len(m.state.Threads)].Frames[0]
			roots = append(slices.Clone(roots), x.at(started))
		}
		x.add(moment{next, roots})
	}
}

// testState tests a state that is reached without events.
func (x *runs) testState(t *testing.T, m moment) {
	t.Helper()
	x.testHeld(t, m)
	deadlocked := waits.Deadlocked(x.unit, m.state)
	meets := func(thread int) bool {
		kind, _ := simulate.Event(x.unit, x.closure, m.state, thread)
		return kind != 0
	}
	// Who locks a scalar again that it holds is in a deadlock of its own, which is an event.
	if len(deadlocked) > 0 && !slices.ContainsFunc(deadlocked, meets) {
		x.tried.deadlocks++
		if !slices.ContainsFunc(x.all, func(f api.Finding) bool { return f.Kind == api.FindCycle && x.isCycle(f, m.state) }) {
			t.Fatalf("%.3000s: in %v the threads %v are deadlocked, but found are %s", x.source, m.state, deadlocked, x.texts(x.all))
		}
	}
	if len(x.all) == 0 {
		x.testClean(t, m.state)
	}
}

// isCycle reports whether a finding has all mutexes for which the threads of a cycle wait.
func (x *runs) isCycle(f api.Finding, s api.State) bool {
	for _, thread := range waits.Cycle(x.unit, s) {
		instr, _ := machine.Instruction(x.unit, s, thread)
		frames := s.Threads[thread].Frames
		i := x.closure.Instances[x.at(frames[len(frames)-1])]
		wanted := instr.Place.Index
		if instr.Place.Param {
			wanted = i.Locks[wanted]
		}
		if !slices.Contains(f.Locks, wanted) {
			return false
		}
	}
	return true
}

// testHeld tests that what finished threads hold is a finding.
func (x *runs) testHeld(t *testing.T, m moment) {
	t.Helper()
	element := 0
	for number, mutex := range x.unit.Mutexes {
		for range max(mutex.Size, 1) {
			hold := m.state.Table[element]
			element++
			if hold.Owner == 0 || len(m.state.Threads[hold.Owner-1].Frames) > 0 {
				continue
			}
			x.tried.leaks++
			if want := (api.Finding{Kind: api.FindLeak, Instance: m.roots[hold.Owner-1], PC: -1, Lock: number}); !x.has(want) {
				t.Fatalf("%.3000s: in %v thread %d has finished and holds %s, but found are %s", x.source, m.state, hold.Owner-1, mutex.Name, x.texts(x.all))
			}
		}
	}
}

// testClean tests what DOC.md says in T1 of the states of a program without findings. That finished threads hold nothing, and that there are no events, is tested for all programs.
func (x *runs) testClean(t *testing.T, s api.State) {
	t.Helper()
	x.tried.cleanStates++
	finished := true
	for thread, threadState := range s.Threads {
		finished = finished && len(threadState.Frames) == 0
		if _, _, is := waits.Waiting(x.unit, s, thread); is {
			x.tried.waited++
		}
	}
	if finished {
		x.tried.ended++
	}
	if s.Fault != 0 {
		x.tried.faults++
	}
	if l := waits.Deadlocked(x.unit, s); len(l) > 0 {
		t.Fatalf("%.3000s: nothing is found, but in %v the threads %v are deadlocked", x.source, s, l)
	}
	if waits.Quiet(x.unit, s) && !finished && s.Fault == 0 {
		t.Fatalf("%.3000s: nothing is found, but in %v nothing can follow", x.source, s)
	}
	for _, hold := range s.Table {
		if hold.Depth > api.MaxDepth {
			t.Fatalf("%.3000s: nothing is found, but in %v something is held too deep", x.source, s)
		}
	}
}

func TestRunsOfAll(t *testing.T) { // P23.5: all runs of small programs
	bodies := []string{"lock a; lock b; unlock b; unlock a;", "lock g; lock b; lock a; unlock a; unlock b; unlock g;", "lock g; lock a; lock b; unlock a; unlock b; unlock g;", "lock g; lock a; unlock g; lock b; unlock b; unlock a;",
		"lock g; lock c[0]; lock c[1]; unlock c[0]; unlock c[1]; unlock g;", "lock r; lock g; lock r; unlock g; unlock r; unlock r;", "lock r; lock b; lock r; lock a; unlock r; unlock b; unlock r; unlock a;", "lock c[x]; unlock c[1 - x];", "lock b; x = 1 / x; unlock b;", "lock a; if x { x = 0; return; } unlock a;", "if x { lock r; } lock b; unlock b;"}
	var count tried
	for _, one := range bodies {
		for _, two := range bodies {
			for _, begin := range []string{"BODY", "lock h; BODY unlock h;"} {
				mustRead(t, "mutex a; mutex b; mutex c[2]; rmutex r; mutex g; rmutex h; var x = 1; func main() { go f(); "+strings.Replace(begin, "BODY", one, 1)+" } func f() { x = 1 - x; "+strings.Replace(begin, "BODY", two, 1)+" }").followRuns(t, &count)
			}
		}
	}
	if count.states < 11000 || count.cleanStates < 5000 || count.clean < 105 || count.guarded < 12 || count.cut > 0 || count.deadlocks < 9 || count.leaks < 280 || count.ended < 75 || count.faults < 260 || count.waited < 900 {
		t.Errorf("%+v", count)
	}
}

func TestRandomRuns(t *testing.T) { // P23.5
	r := rand.New(rand.NewSource(4))
	var count tried
	for range 300 {
		mustRead(t, randomProgram(r, 3*r.Intn(4))).followRuns(t, &count)
	}
	if count.states < 80000 || count.cleanStates < 11000 || count.clean < 58 || count.guarded < 3 || count.cut > 110 || count.deadlocks < 3500 || count.leaks < 1100 || count.events < 6000 || count.ended < 45 || count.faults < 110 || count.waited < 3500 {
		t.Errorf("%+v", count)
	}
}
