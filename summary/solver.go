package summary

import "slices"

// solver replaces the summaries of a scope until they are the exits of their instances.
type solver struct {
	scope
	summaries [][]int
	callers   [][]int // for each instance, those that call it
	stale     []bool  // for each instance, whether its exit may differ from its summary
}

// newSolver returns the solver whose summaries are empty relations.
func newSolver(s scope) *solver {
	n := len(s.closure.Instances)
	v := &solver{scope: s, callers: make([][]int, n), stale: make([]bool, n)}
	for i := range n {
		v.summaries = append(v.summaries, s.nothing())
		v.stale[i] = true
		for pc := range s.code(i) {
			if called := s.callee(i, pc); s.calls(i, pc) && called >= 0 && called < n {
				v.callers[called] = append(v.callers[called], i)
			}
		}
	}
	return v
}

// listStale returns the instances whose exits may differ from their summaries, in ascending order.
func (v *solver) listStale() []int {
	var l []int
	for i, is := range v.stale {
		if is {
			l = append(l, i)
		}
	}
	return l
}

// replace replaces the summaries of some instances at once by their exits.
func (v *solver) replace(instances []int) {
	var exits [][]int
	for _, i := range instances {
		exits = append(exits, v.exit(v.summaries, i))
		v.stale[i] = false
	}
	for n, i := range instances {
		if slices.Equal(exits[n], v.summaries[i]) {
			continue
		}
		v.summaries[i] = exits[n]
		// Only an exit that uses a summary that is new can have become another one.
		for _, caller := range v.callers[i] {
			v.stale[caller] = true
		}
	}
}
