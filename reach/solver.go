package reach

import (
	"slices"

	"lockorder/api"
	"lockorder/depth"
	"lockorder/summary"
)

// solver finds the depths of one mutex at the beginnings of all instances of a closure.
type solver struct {
	unit      api.Unit
	closure   api.Closure
	summaries [][]int
	inner     [][][]int // for each instance, what summary.Inner returns
	entries   []int     // the depths found so far
	grown     []int     // the instances whose depths have grown since they were carried into what is called
}

// solve returns the solver for the mutex m when nothing grows any more.
func solve(u api.Unit, c api.Closure, m int) *solver {
	s := &solver{unit: u, closure: c, summaries: summary.Of(u, c, m), entries: make([]int, len(c.Instances))}
	for i := range c.Instances {
		s.inner = append(s.inner, summary.Inner(u, c, m, s.summaries, i))
	}
	s.begin()
	for len(s.grown) > 0 {
		last := len(s.grown) - 1
		i := s.grown[last]
		s.grown = s.grown[:last]
		s.carry(i)
	}
	return s
}

// begin lets threads begin in the roots, without holding anything. That the instruction which starts a root may not be reached for this mutex makes no difference.
func (s *solver) begin() {
	// It is a copy because others take the places of the roots in it.
	s.grown = slices.DeleteFunc(slices.Clone(s.closure.Roots), func(i int) bool { return !s.has(i) })
	for _, root := range s.grown {
		s.entries[root] = onlyZero
	}
}

// carry adds the depths before the calls of the instance i to those at the beginning of what is called.
func (s *solver) carry(i int) {
	for pc := range s.inner[i] {
		if called := s.callee(i, pc); s.has(called) {
			s.add(called, s.set(i, pc))
		}
	}
}

// add adds a set to the depths at the beginning of the instance i.
func (s *solver) add(i, set int) {
	if set&^s.entries[i] != 0 {
		s.entries[i] |= set
		s.grown = append(s.grown, i)
	}
}

// has reports whether there is an instance with the number i.
func (s *solver) has(i int) bool { return i >= 0 && i < len(s.entries) }

// callee returns the number of the instance that an instruction of the instance i calls, or -1. A thread that is started has depths of its own.
func (s *solver) callee(i, pc int) int {
	if s.unit.Procs[s.closure.Instances[i].Proc].Code[pc].Op != api.InstrCall {
		return -1
	}
	// Only the closure of another unit has no number for a call.
	if i >= len(s.closure.Calls) || pc >= len(s.closure.Calls[i]) {
		return -1
	}
	return s.closure.Calls[i][pc]
}

// set returns the depths before an instruction of the instance i, which are none if there is no such instruction.
func (s *solver) set(i, pc int) int {
	if !s.has(i) || pc < 0 || pc >= len(s.inner[i]) {
		return 0
	}
	return depth.Apply(s.inner[i][pc], s.entries[i])
}

// sets returns the depths before each instruction of the instance i.
func (s *solver) sets(i int) []int {
	l := make([]int, len(s.inner[i]))
	for pc := range l {
		l[pc] = s.set(i, pc)
	}
	return l
}
