package gate

import (
	"lockorder/api"
	"lockorder/depth"
	"lockorder/reach"
)

// finder finds gates. It computes the depths of a mutex when they are first needed, and once only, since reach.Must would compute them for each instruction.
type finder struct {
	unit    api.Unit
	closure api.Closure
	known   map[int][][]int // for some mutexes, what reach.Before returns
}

func finderOf(u api.Unit, c api.Closure) finder {
	return finder{unit: u, closure: c, known: map[int][][]int{}}
}

// gates returns the gates of a component with these edges inside.
func (f finder) gates(inside []api.Edge) []int {
	// Without an edge there is no cycle to guard. With a loop, a single thread might wait for an element that it holds itself.
	if len(inside) == 0 || hasLoop(f.unit.Mutexes, inside) {
		return nil
	}
	var l []int
	for m := range f.unit.Mutexes {
		if f.isGate(m, inside) {
			l = append(l, m)
		}
	}
	return l
}

// isGate reports whether the mutex m is a scalar that must be held at the instructions of all edges. Two threads can hold an array at the same time.
func (f finder) isGate(m int, inside []api.Edge) bool {
	if kindOf(f.unit.Mutexes, m) != scalar {
		return false
	}
	before := f.before(m)
	for _, e := range inside {
		if !mustHold(before, e) {
			return false
		}
	}
	return true
}

// before returns what reach.Before returns for the mutex m.
func (f finder) before(m int) [][]int {
	if _, is := f.known[m]; !is {
		f.known[m] = reach.Before(f.unit, f.closure, m)
	}
	return f.known[m]
}

// mustHold reports whether reach.Must is true at the instruction of an edge, for the mutex of which these are the depths.
func mustHold(before [][]int, e api.Edge) bool {
	if e.Instance < 0 || e.Instance >= len(before) || e.PC < 0 || e.PC >= len(before[e.Instance]) {
		return false
	}
	set := before[e.Instance][e.PC]
	return set != 0 && !depth.Has(set, 0)
}
