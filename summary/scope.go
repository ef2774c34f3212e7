package summary

import (
	"lockorder/api"
	"lockorder/depth"
	"lockorder/flow"
)

// scope is what summaries are about: the instances of a closure, and one mutex.
type scope struct {
	unit    api.Unit
	closure api.Closure
	mutex   int
}

// code returns the code of the instance i, which is empty if there is no such instance or procedure.
func (s scope) code(i int) []api.Instr {
	if i < 0 || i >= len(s.closure.Instances) {
		return nil
	}
	p := s.closure.Instances[i].Proc
	if p < 0 || p >= len(s.unit.Procs) {
		return nil
	}
	return s.unit.Procs[p].Code
}

// calls reports whether an instruction is a call. The start of a thread is none.
func (s scope) calls(i, pc int) bool { return s.code(i)[pc].Op == api.InstrCall }

// callee returns the number of the instance that a call calls, or -1 if the closure does not have it.
func (s scope) callee(i, pc int) int {
	if i >= len(s.closure.Calls) || pc >= len(s.closure.Calls[i]) {
		return -1
	}
	return s.closure.Calls[i][pc]
}

// identity returns the relation in which each depth of the mutex is followed by itself. A mutex that is not declared has no depths.
func (s scope) identity() []int {
	if s.mutex < 0 || s.mutex >= len(s.unit.Mutexes) {
		return nil
	}
	return depth.Identity(depth.Cap(s.unit.Mutexes[s.mutex]))
}

// nothing returns the relation in which no depth of the mutex is followed by any.
func (s scope) nothing() []int { return make([]int, len(s.identity())) }

// across returns which depths of the mutex may follow which by an instruction, if what is called has these summaries.
func (s scope) across(summaries [][]int, i, pc int) []int {
	if !s.calls(i, pc) {
		return flow.Relation(s.unit, s.closure.Instances[i], pc, s.mutex)
	}
	if n := s.callee(i, pc); n >= 0 && n < len(summaries) {
		return summaries[n]
	}
	return nil
}

// inner returns the relations before the instructions of the instance i.
func (s scope) inner(summaries [][]int, i int) [][]int {
	code := s.code(i)
	if len(code) == 0 {
		return nil
	}
	w := walk{
		next:   func(pc int) []int { return flow.Next(s.unit, s.closure.Instances[i], pc) },
		across: func(pc int) []int { return s.across(summaries, i, pc) },
		grown:  make([]bool, len(code)),
	}
	for range code {
		w.before = append(w.before, s.nothing())
	}
	w.from(s.identity())
	return w.before
}

// exit returns the relation at the end of the instance i.
func (s scope) exit(summaries [][]int, i int) []int {
	end := s.nothing()
	for pc, r := range s.inner(summaries, i) {
		if s.code(i)[pc].Op == api.InstrReturn {
			end = depth.Union(end, r)
		}
	}
	return end
}
