package table_test

import (
	"math/rand"
	"slices"
	"strconv"

	"lockorder/api"
)

// place names an element: the number of its mutex, and its index in an array.
type place struct{ mutex, index int }

// places returns all elements in the order of their numbers.
func places(l []api.Mutex) []place {
	var all []place
	for m, mutex := range l {
		all = append(all, place{mutex: m})
		for i := 1; i < mutex.Size; i++ {
			all = append(all, place{m, i})
		}
	}
	return all
}

// history has, for each place, the threads that have locked it and not unlocked it yet, in the order of the locks.
type history map[place][]int

// at returns the place of an element, and whether there is one that the thread could use.
func at(l []api.Mutex, element, thread int) (place, bool) {
	all := places(l)
	if element < 0 || element >= len(all) || thread < 0 {
		return place{}, false
	}
	return all[element], true
}

// free is Free of P8.2.
func (h history) free(l []api.Mutex, element, thread int) bool {
	p, ok := at(l, element, thread)
	if !ok || len(h[p]) == 0 {
		return ok
	}
	return l[p.mutex].Reentrant && h[p][0] == thread
}

// lock is Lock of P8.2: it changes h.
func (h history) lock(l []api.Mutex, element, thread int) bool {
	if !h.free(l, element, thread) {
		return false
	}
	p, _ := at(l, element, thread)
	h[p] = append(slices.Clone(h[p]), thread)
	return true
}

// unlock is Unlock of P8.2: it changes h.
func (h history) unlock(l []api.Mutex, element, thread int) bool {
	p, ok := at(l, element, thread)
	if !ok || !slices.Contains(h[p], thread) {
		return false
	}
	h[p] = h[p][1:]
	return true
}

// table returns the table that h stands for.
func (h history) table(l []api.Mutex) []api.Hold {
	var t []api.Hold
	for _, p := range places(l) {
		if len(h[p]) == 0 {
			t = append(t, api.Hold{})
		} else {
			t = append(t, api.Hold{Owner: h[p][0] + 1, Depth: len(h[p])})
		}
	}
	return t
}

// depth is P8.3: how many of the locks of the places of a mutex are by a thread.
func (h history) depth(m, thread int) int {
	n := 0
	for p, threads := range h {
		for _, other := range threads {
			if p.mutex == m && other == thread {
				n++
			}
		}
	}
	return n
}

// copied returns a history that does not change with h.
func (h history) copied() history {
	c := history{}
	for p, threads := range h {
		c[p] = slices.Clone(threads)
	}
	return c
}

// valid is P8.4, with the pairs of an Owner and a Depth written out that an element may have, up to the Depth most.
func valid(l []api.Mutex, t []api.Hold, threads, most int) bool {
	all := places(l)
	if len(all) != len(t) {
		return false
	}
	for i, p := range all {
		allowed := []api.Hold{}
		if threads >= 0 {
			allowed = append(allowed, api.Hold{})
		}
		for owner := 1; owner <= threads; owner++ {
			allowed = append(allowed, api.Hold{Owner: owner, Depth: 1})
			for depth := 2; l[p.mutex].Reentrant && depth <= most; depth++ {
				allowed = append(allowed, api.Hold{Owner: owner, Depth: depth})
			}
		}
		if !slices.Contains(allowed, t[i]) {
			return false
		}
	}
	return true
}

// mutexesByChance returns a list of mutexes by chance.
func mutexesByChance(r *rand.Rand) []api.Mutex {
	l := make([]api.Mutex, r.Intn(api.MaxMutexes+1))
	for i := range l {
		l[i].Name = "m" + strconv.Itoa(i)
		switch r.Intn(4) {
		case 0:
			l[i].Reentrant = true
		case 1:
			l[i].Size = 1 + r.Intn(3)
		case 2:
			l[i].Size, l[i].Reentrant = 1+r.Intn(api.MaxElements), r.Intn(2) == 0
		}
	}
	return l
}
