package finding

import (
	"slices"

	"lockorder/api"
	"lockorder/depth"
	"lockorder/flow"
	"lockorder/reach"
	"lockorder/summary"
)

// forAllMutexes returns what find returns for all mutexes, in order.
func forAllMutexes(u api.Unit, c api.Closure, find func(u api.Unit, c api.Closure, m int) []api.Finding) []api.Finding {
	var l []api.Finding
	for m := range u.Mutexes {
		l = append(l, find(u, c, m)...)
	}
	// The order is by instances first, but the depths of one mutex are there for all instances at once.
	slices.SortFunc(l, compare)
	return l
}

// leaksOf returns the roots whose threads may finish while they hold the mutex m, in any order.
func leaksOf(u api.Unit, c api.Closure, m int) []api.Finding {
	summaries := summary.Of(u, c, m)
	var l []api.Finding
	for _, root := range c.Roots {
		// Only the closure of another unit has a root that is no instance.
		if root >= 0 && root < len(summaries) && mayLeak(summaries[root]) {
			l = append(l, api.Finding{Kind: api.FindLeak, Instance: root, PC: -1, Lock: m})
		}
	}
	return l
}

// mayLeak reports whether a thread that holds nothing when it begins may hold the mutex when it finishes, if r is the summary of its root.
func mayLeak(r []int) bool {
	onlyZero := depth.Full(0)
	return depth.Apply(r, onlyZero)&^onlyZero != 0
}

// sitesOf returns the instructions that may lock or unlock the mutex m though no path does, in any order.
func sitesOf(u api.Unit, c api.Closure, m int) []api.Finding {
	var l []api.Finding
	for i, sets := range reach.Before(u, c, m) {
		for pc, set := range sets {
			change := flow.Change(u, c.Instances[i], pc, m)
			if kind := eventKind(u.Mutexes[m], change, set); kind != 0 {
				l = append(l, api.Finding{Kind: kind, Instance: i, PC: pc, Lock: m})
			}
		}
	}
	return l
}

// eventKind returns the kind of the event that an instruction may be which changes the depth of a mutex by change, with one of the depths of a set before it; or else 0.
func eventKind(mutex api.Mutex, change, set int) int {
	full := depth.Has(set, depth.Cap(mutex))
	switch {
	case change < 0 && depth.Has(set, 0):
		return api.FindUnheld
	case change > 0 && full && isPlain(mutex):
		return api.FindSelf
	case change > 0 && full:
		return api.FindOver
	}
	return 0
}

// isPlain reports whether a mutex is a scalar that is not reentrant.
func isPlain(mutex api.Mutex) bool { return mutex.Size <= 0 && !mutex.Reentrant }
