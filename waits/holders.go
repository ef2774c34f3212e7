package waits

import "lockorder/api"

// nobody stands in the place of a thread if there is none.
const nobody = -1

// holders are, for each thread of a state, the thread that holds what it waits for, or nobody if it does not wait.
type holders []int

// set says of each thread that there may be whether it is in the set.
type set [api.MaxThreads]bool

// holdersIn returns the holders in a state. No state of a run has threads after the first MaxThreads, which therefore are left out.
func holdersIn(u api.Unit, s api.State) holders {
	h := make(holders, min(len(s.Threads), api.MaxThreads))
	for t := range h {
		h[t] = nobody
		if _, holder, ok := Waiting(u, s, t); ok && holder >= 0 && holder < len(h) {
			h[t] = holder
		}
	}
	return h
}

// closed returns the greatest set of threads each of which waits for one of the set.
func (h holders) closed() set {
	var l set
	for t := range h {
		l[t] = true
	}
	// A thread that is left out is in no such set, since the one for which it waits is in none.
	for rest := h.supported(l); rest != l; rest = h.supported(l) {
		l = rest
	}
	return l
}

// supported returns the threads that wait for one of a set.
func (h holders) supported(l set) set {
	var rest set
	for t, holder := range h {
		rest[t] = holder != nobody && l[holder]
	}
	return rest
}

// threads returns the threads of a set, in ascending order.
func (l set) threads() []int {
	var threads []int
	for t, in := range l {
		if in {
			threads = append(threads, t)
		}
	}
	return threads
}

// round returns the threads from t on each of which waits for the next one, and true if the last one waits for t. Otherwise t is on no cycle.
func (h holders) round(t int) ([]int, bool) {
	threads := []int{t}
	for next := h[t]; next != t; next = h[next] {
		// With all threads and one more, one of them occurs twice, and it is not t.
		if next == nobody || len(threads) == len(h) {
			return nil, false
		}
		threads = append(threads, next)
	}
	return threads, true
}
