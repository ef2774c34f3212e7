package table

import "lockorder/api"

// width returns the number of elements of a mutex. It keeps to the limit for every Size, so that there is always a table.
func width(mutex api.Mutex) int {
	return min(max(mutex.Size, 1), api.MaxElements)
}

// exists reports whether the mutexes and the table have an element.
func exists(l []api.Mutex, t []api.Hold, element int) bool {
	return MutexOf(l, element) >= 0 && element < len(t)
}

// holds reports whether h says that a thread holds the element. Without the first condition, the thread -1 would hold what nobody does.
func holds(h api.Hold, thread int) bool {
	return thread >= 0 && h.Owner == thread+1
}

// depthFits reports whether the Depth of h is one that its Owner can have.
func depthFits(h api.Hold, reentrant bool) bool {
	switch {
	case h.Owner == 0:
		return h.Depth == 0
	case reentrant:
		return h.Depth >= 1
	}
	return h.Depth == 1
}

// clone returns a copy of a table. The slice to which it appends has no room, so that no element of t is written to.
func clone(t []api.Hold) []api.Hold {
	return append(t[:0:0], t...)
}
