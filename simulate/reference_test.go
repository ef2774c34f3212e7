package simulate_test

import (
	"slices"
	"strconv"
	"strings"
	"testing"

	"lockorder/api"
	"lockorder/machine"
	"lockorder/model"
	"lockorder/reach"
	"lockorder/simulate"
)

// elements returns the name of the mutex of each element.
func (s subject) elements() []string {
	var l []string
	for _, m := range s.unit.Mutexes {
		l = append(l, slices.Repeat([]string{m.Name}, max(m.Size, 1))...)
	}
	return l
}

// held returns the depth to which a thread holds the mutex with a name.
func (s subject) held(state api.State, thread int, name string) int {
	sum := 0
	for element, x := range s.elements() {
		if h := state.Table[element]; x == name && h.Owner == thread+1 {
			sum += h.Depth
		}
	}
	return sum
}

// limit returns the greatest depth of the mutex m.
func (s subject) limit(m int) int {
	if x := s.unit.Mutexes[m]; x.Size == 0 && !x.Reentrant {
		return 1
	}
	return 8
}

// meanings returns the names of the mutexes that the parameters of a frame stand for.
func (s subject) meanings(f api.Frame) []string {
	l := []string{}
	for _, element := range f.Locks {
		l = append(l, s.elements()[element])
	}
	return l
}

// projected returns the configuration of a thread as P19.1 describes it, as a text that is made of names only.
func (s subject) projected(state api.State, thread, m int) string {
	if thread < 0 || thread >= len(state.Threads) {
		return ""
	}
	text := strconv.Itoa(min(s.held(state, thread, s.unit.Mutexes[m].Name), s.limit(m)))
	for _, f := range state.Threads[thread].Frames {
		text += " " + s.unit.Procs[f.Proc].Name + "(" + strings.Join(s.meanings(f), ",") + "):" + strconv.Itoa(f.PC)
	}
	return text
}

// eventByNames returns the event of a thread as P19.2 describes it, as text.
func (s subject) eventByNames(state api.State, thread int) string {
	if state.Fault != 0 || thread < 0 || thread >= len(state.Threads) || len(state.Threads[thread].Frames) == 0 {
		return ""
	}
	frames := state.Threads[thread].Frames
	f := frames[len(frames)-1]
	instr := s.unit.Procs[f.Proc].Code[f.PC]
	if instr.Op != api.InstrLock && instr.Op != api.InstrUnlock {
		return ""
	}
	m := s.unit.Mutexes[max(instr.Place.Index, 0)%len(s.unit.Mutexes)]
	if instr.Place.Param {
		m = s.unit.Mutexes[s.mutex(s.meanings(f)[instr.Place.Index])]
	}
	d := s.held(state, thread, m.Name)
	switch {
	case instr.Op == api.InstrUnlock && d == 0:
		return "unheld " + m.Name
	case instr.Op == api.InstrLock && m.Size == 0 && !m.Reentrant && d > 0:
		return "self " + m.Name
	case instr.Op == api.InstrLock && (m.Size > 0 || m.Reentrant) && d >= 8:
		return "over " + m.Name
	}
	return ""
}

// procedure returns the procedure with a name.
func (s subject) procedure(name string) api.Proc {
	i := slices.IndexFunc(s.unit.Procs, func(p api.Proc) bool { return p.Name == name })
	return s.unit.Procs[i]
}

// follow returns the configurations that follow on one, both as texts: instances and mutexes only have names here.
func (s subject) follow(m int, config string) []string {
	words := strings.Fields(config)
	if len(words) == 1 {
		return nil
	}
	callers, last := words[:len(words)-1], words[len(words)-1]
	instance, number, _ := strings.Cut(last, ":")
	name, rest, _ := strings.Cut(strings.TrimSuffix(instance, ")"), "(")
	meanings := strings.Split(rest, ",")
	meaning := func(p api.Place) string {
		if p.Param {
			return meanings[p.Index]
		}
		return s.unit.Mutexes[p.Index].Name
	}
	pc, _ := strconv.Atoi(number)
	instr := s.procedure(name).Code[pc]
	point := func(pc int) string { return instance + ":" + strconv.Itoa(pc) }
	with := func(points ...string) string { return strings.Join(slices.Concat(callers, points), " ") }
	switch instr.Op {
	case api.InstrReturn:
		return []string{with()}
	case api.InstrCall:
		var mutexes []string
		for _, p := range instr.Places {
			mutexes = append(mutexes, meaning(p))
		}
		return []string{with(point(pc+1), s.unit.Procs[instr.Target].Name+"("+strings.Join(mutexes, ",")+"):0")}
	case api.InstrJump:
		return []string{with(point(instr.Target))}
	case api.InstrBranch:
		return []string{with(point(pc + 1)), with(point(instr.Target))}
	case api.InstrLock, api.InstrUnlock:
		if meaning(instr.Place) == s.unit.Mutexes[m].Name {
			d, _ := strconv.Atoi(callers[0])
			d += map[int]int{api.InstrLock: 1, api.InstrUnlock: -1}[instr.Op]
			if d < 0 || d > s.limit(m) {
				return nil
			}
			callers[0] = strconv.Itoa(d)
		}
	}
	return []string{with(point(pc + 1))}
}

// seen counts what states have.
type seen struct {
	states             int
	configs            int // configurations that are compared
	none               int // threads that do not exist
	open, ended        int // configurations with more than one point, or none
	high, above        int // configurations with a depth above 1, and threads that hold a mutex to a depth above its cap
	steps              int // steps that are among those of the model
	idle, faults       int // steps that are not possible or lead to a Fault
	unheld, self, over int // events
	covered            int // configurations whose depths are compared with package reach
}

// compare tests P19.1, P19.2, and P19.3 for all threads and mutexes in a state.
func (s subject) compare(t *testing.T, state api.State, count *seen) {
	t.Helper()
	count.states++
	for thread := -1; thread <= len(state.Threads); thread++ {
		event := s.event(state, thread)
		if want := s.eventByNames(state, thread); event != want {
			t.Fatalf("%s: in %v the event of thread %d is %q; want %q", s.source, state, thread, event, want)
		}
		kind, _, _ := strings.Cut(event, " ")
		switch kind {
		case "unheld":
			count.unheld++
		case "self":
			count.self++
		case "over":
			count.over++
		}
		next, moves := machine.Step(s.unit, state, thread)
		if !moves {
			count.idle++
		} else if next.Fault != 0 {
			count.faults++
		}
		for m := range s.unit.Mutexes {
			s.compareConfig(t, state, thread, m, count)
			if !s.follows(state, thread, m) {
				t.Fatalf("%s: in %v, for mutex %d, the step of thread %d does not follow", s.source, state, m, thread)
			}
			if moves && next.Fault == 0 && event != kind+" "+s.unit.Mutexes[m].Name && s.held(state, thread, s.unit.Mutexes[m].Name) <= s.limit(m) {
				s.compareStep(t, state, next, thread, m, count)
			}
		}
	}
}

// compareConfig tests P19.1 for a thread and a mutex.
func (s subject) compareConfig(t *testing.T, state api.State, thread, m int, count *seen) {
	t.Helper()
	got := s.project(state, thread, m)
	if want := s.projected(state, thread, m); got != want {
		t.Fatalf("%s: in %v, for mutex %d, thread %d is %q; want %q", s.source, state, m, thread, got, want)
	}
	count.configs++
	d := 0
	switch points := strings.Count(got, " "); {
	case got == "":
		count.none++
		return
	case points == 0:
		count.ended++
	case points > 1:
		count.open++
	}
	d = s.held(state, thread, s.unit.Mutexes[m].Name)
	count.high += min(d/2, 1)
	if d > s.limit(m) {
		count.above++
	}
}

// compareStep tests P19.4 for a step that must be one of the model: the configuration after it is one of those that follow by the reference.
func (s subject) compareStep(t *testing.T, state, next api.State, thread, m int, count *seen) {
	t.Helper()
	before, after := s.projected(state, thread, m), s.projected(next, thread, m)
	if !slices.Contains(s.follow(m, before), after) {
		t.Fatalf("%s: for mutex %d, %s follows on %s in a run", s.source, m, after, before)
	}
	count.steps++
}

// isBegin reports whether a configuration is one in which a thread begins.
func (s subject) isBegin(x api.Config) bool {
	return slices.ContainsFunc(s.closure.Roots, func(root int) bool { return model.Same(x, model.Begin(s.closure, root)) })
}

// isNext reports whether a configuration is one of those that follow on x by the model.
func (s subject) isNext(m int, x, next api.Config) bool {
	return slices.ContainsFunc(model.Steps(s.unit, s.closure, m, x), func(y api.Config) bool { return model.Same(y, next) })
}

// comparePaths tests P19.4 for a run with these states, in which the threads picks carry out the steps: as long as no thread has met an event for the mutex m, the configurations of each thread are a path, and the depths are those of package reach.
func (s subject) comparePaths(t *testing.T, states []api.State, picks []int, m int, count *seen) {
	t.Helper()
	before := reach.Before(s.unit, s.closure, m)
	last := map[int]api.Config{} // of each thread
	for n, state := range states {
		if state.Fault != 0 {
			return
		}
		for thread := range state.Threads {
			x, is := simulate.Project(s.unit, s.closure, state, thread, m)
			y, known := last[thread]
			moves := known && picks[n-1] == thread
			if !is || !known && !s.isBegin(x) || moves && !s.isNext(m, y, x) || known && !moves && !model.Same(x, y) {
				t.Fatalf("%s: for mutex %d, thread %d goes from %v to %v; %v, %v", s.source, m, thread, y, x, known, moves)
			}
			s.compareDepth(t, before, x)
			count.covered++
			last[thread] = x
		}
		if n < len(picks) && strings.HasSuffix(s.event(state, picks[n]), " "+s.unit.Mutexes[m].Name) {
			return
		}
	}
}

// compareDepth tests that the depth of a configuration is one of those of package reach.
func (s subject) compareDepth(t *testing.T, before [][]int, x api.Config) {
	t.Helper()
	if len(x.Stack) == 0 {
		return
	}
	at := x.Stack[len(x.Stack)-1]
	if before[at.Instance][at.PC]>>x.Depth&1 != 1 {
		t.Fatalf("%s: package reach does not have the depth of %s", s.source, s.text(x))
	}
}
