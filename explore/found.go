package explore

import (
	"slices"

	"lockorder/api"
	"lockorder/machine"
)

// found are the states that have been found. They have numbers, in this order.
type found struct {
	states []api.State
	// origins are, for each state, how it was found.
	origins []origin
	// similar are the states that have a digest.
	similar map[digest][]int
	// left is, for each state whose steps have not been examined yet, the number of steps that may still follow.
	left map[int]int
}

// origin is the state and the thread by whose step another state was found.
type origin struct{ state, thread int }

// nothing is the origin of the first state.
const nothing = -1

// begin returns the state of the beginning, which so many steps may follow.
func begin(u api.Unit, steps int) found {
	l := found{similar: map[digest][]int{}, left: map[int]int{}}
	l.add(machine.New(u), origin{state: nothing}, steps)
	return l
}

// add adds a state at the end.
func (l *found) add(s api.State, from origin, left int) {
	state, d := len(l.states), digestOf(s)
	l.states, l.origins = append(l.states, s), append(l.origins, from)
	l.similar[d] = append(l.similar[d], state)
	l.left[state] = left
}

// has reports whether a state has been found.
func (l *found) has(s api.State) bool {
	// States that differ may have the same digest.
	return slices.ContainsFunc(l.similar[digestOf(s)], func(state int) bool { return machine.Same(l.states[state], s) })
}

// proceed adds the states after the steps of a state, and reports whether this leads to no more states than most.
func (l *found) proceed(u api.Unit, state, most int) bool {
	left := l.left[state]
	delete(l.left, state)
	if left == 0 {
		return true
	}
	for thread := range l.states[state].Threads {
		next, possible := machine.Step(u, l.states[state], thread)
		if !possible || l.has(next) {
			continue
		}
		if len(l.states) == most {
			return false
		}
		l.add(next, origin{state, thread}, left-1)
	}
	return true
}

// schedule returns the picks by which a state was found.
func (l *found) schedule(state int) []int {
	var picks []int
	for from := l.origins[state]; from.state != nothing; from = l.origins[from.state] {
		picks = append(picks, from.thread)
	}
	slices.Reverse(picks)
	return picks
}
