package waits_test

import (
	"slices"
	"testing"

	"lockorder/api"
	"lockorder/machine"
	"lockorder/waits"
)

// possible reports whether a thread could carry out a step if nobody held an element (none, if the number is negative).
func possible(u api.Unit, s api.State, thread, element int) bool {
	s.Table = slices.Clone(s.Table)
	if element >= 0 {
		s.Table[element] = api.Hold{}
	}
	_, ok := machine.Step(u, s, thread)
	return ok
}

// expected returns what is to be said about a state, as it follows from the steps that are possible: a thread waits for an element if it could carry out a step only if nobody held this element. It also returns all deadlocked sets, which are those of the definition among all sets of threads that wait.
func expected(t *testing.T, u api.Unit, s api.State) (facts, [][]int) {
	t.Helper()
	var f facts
	for thread := range s.Threads {
		if possible(u, s, thread, -1) {
			f.enabled = append(f.enabled, thread)
			continue
		}
		for element, h := range s.Table {
			if possible(u, s, thread, element) {
				f.waiting = append(f.waiting, wait{thread, element, h.Owner - 1})
			}
		}
	}
	sets := deadlockedSets(f.waiting)
	for _, l := range sets {
		if len(l) > len(f.deadlocked) {
			f.deadlocked = l
		}
	}
	for _, l := range sets {
		for _, thread := range l {
			if !slices.Contains(f.deadlocked, thread) {
				t.Fatalf("in %v, neither %v nor %v is the greatest deadlocked set", s, l, f.deadlocked)
			}
		}
	}
	f.cycle = firstCycle(f.waiting)
	return f, sets
}

// deadlockedSets returns the sets of P11.2, each in ascending order.
func deadlockedSets(waiting []wait) [][]int {
	var sets [][]int
	for bits := 1; bits < 1<<len(waiting); bits++ {
		var threads, holders []int
		for i, w := range waiting {
			if bits>>i&1 == 1 {
				threads, holders = append(threads, w.thread), append(holders, w.holder)
			}
		}
		if !slices.ContainsFunc(holders, func(holder int) bool { return !slices.Contains(threads, holder) }) {
			sets = append(sets, threads)
		}
	}
	return sets
}

// firstCycle returns the cycle of P11.2.
func firstCycle(waiting []wait) []int {
	for _, first := range waiting { // in ascending order
		l, at := []int{first.thread}, first.holder
		for range waiting {
			if at == first.thread {
				return l
			}
			if i := slices.IndexFunc(waiting, func(w wait) bool { return w.thread == at }); i >= 0 {
				l, at = append(l, at), waiting[i].holder
			}
		}
	}
	return nil
}

// hasGlobal reports whether a global variable occurs in expressions.
func hasGlobal(l []api.Expr) bool {
	return slices.ContainsFunc(l, func(e api.Expr) bool { return e.Op == api.OpGlobal || hasGlobal(e.Args) })
}

// forever returns the threads of the deadlocked sets without a thread that waits for an element whose Index contains a global variable.
func forever(u api.Unit, s api.State, sets [][]int) []int {
	var threads []int
	for _, l := range sets {
		global := func(thread int) bool {
			i, _ := machine.Instruction(u, s, thread)
			return hasGlobal(i.Place.At)
		}
		if !slices.ContainsFunc(l, global) {
			threads = append(threads, l...)
		}
	}
	return threads
}

// seen counts the states of runs.
type seen struct {
	states    int // all of them
	waiting   int // those in which a thread waits
	cycles    int // those with a cycle that is the greatest deadlocked set
	behind    int // those with a deadlocked thread that is on no cycle
	more      int // those with several cycles
	long      int // those with a cycle of more than two threads
	dissolved int // those after which a deadlocked thread is enabled
	ended     int // those in which a thread waits for a finished one, and none is deadlocked
	quiet     int // those in which no thread is enabled and some have not finished
	faults    int // those with a fault
}

// finished reports whether a thread has finished.
func finished(s api.State, thread int) bool { return len(s.Threads[thread].Frames) == 0 }

func (c *seen) add(s api.State, f facts, sets [][]int) {
	count := func(n *int, is bool) {
		if is {
			*n++
		}
	}
	c.states++
	count(&c.faults, s.Fault != 0)
	count(&c.waiting, len(f.waiting) > 0)
	count(&c.cycles, len(f.cycle) > 0 && len(f.cycle) == len(f.deadlocked))
	count(&c.long, len(f.cycle) > 2)
	cyclic := 0 // the smallest sets are the cycles
	for _, l := range sets {
		if !slices.ContainsFunc(sets, func(other []int) bool { return len(other) < len(l) && slices.Contains(l, other[0]) }) {
			cyclic += len(l)
		}
	}
	count(&c.behind, cyclic < len(f.deadlocked))
	count(&c.more, cyclic > len(f.cycle))
	ended := slices.ContainsFunc(f.waiting, func(w wait) bool { return finished(s, w.holder) })
	count(&c.ended, ended && len(f.deadlocked) == 0)
	count(&c.quiet, s.Fault == 0 && len(f.enabled) == 0 && slices.ContainsFunc(upTo(len(s.Threads)), func(thread int) bool { return !finished(s, thread) }))
}

// compare tests the functions for a state, and the consequences of P11.4: stuck are the threads that must never be enabled again. It returns those of the states that follow.
func compare(t *testing.T, u api.Unit, s api.State, stuck []int, count *seen) []int {
	t.Helper()
	f, sets := expected(t, u, s)
	check(t, "a state of a run", u, s, f)
	count.add(s, f, sets)
	if len(waits.Deadlocked(u, s)) > 0 != (len(waits.Cycle(u, s)) > 0) {
		t.Fatalf("%v has a deadlocked set but no cycle, or the reverse", s)
	}
	for _, thread := range stuck {
		if waits.Enabled(u, s, thread) {
			t.Fatalf("in %v, the thread %d is enabled again", s, thread)
		}
	}
	if s.Fault == 0 && waits.Quiet(u, s) && len(waits.Deadlocked(u, s)) == 0 {
		for thread := range s.Threads {
			_, holder, ok := waits.Waiting(u, s, thread)
			if !finished(s, thread) && !ok {
				t.Fatalf("in %v, the thread %d has not finished but does not go on", s, thread)
			}
			if ok && finished(s, holder) {
				return stuck
			}
		}
		if !slices.ContainsFunc(s.Threads, func(x api.Thread) bool { return len(x.Frames) > 0 }) {
			return stuck
		}
		t.Fatalf("in %v, no thread is enabled for no reason", s)
	}
	l := append(slices.Clone(stuck), forever(u, s, sets)...)
	slices.Sort(l)
	return slices.Compact(l)
}
