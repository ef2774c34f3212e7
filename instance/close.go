package instance

import (
	"slices"

	"lockorder/api"
)

// Close returns all instances of a unit, what they call or start, and which of them begin a thread, or else an error if they are too many or too long.
func Close(u api.Unit) (api.Closure, api.Errno) {
	b := builder{unit: u}
	b.number(api.Instance{Proc: u.Main})
	for n := 0; n < len(b.instances); n++ {
		// This is tested before an instance is examined, so that no more work is done than the limits allow.
		if len(b.instances) > api.MaxInstances || b.sites > api.MaxSites {
			return api.Closure{}, api.ErrTooLarge
		}
		b.examine(n)
	}
	return api.Closure{Instances: b.instances, Calls: b.calls, Roots: b.roots()}, api.OK
}

// builder has what has been found of a closure.
type builder struct {
	unit      api.Unit
	instances []api.Instance
	keys      []key // those of the instances
	calls     [][]int
	sites     int
}

// number returns the number of an instance, which it adds at the end if it is new.
func (b *builder) number(i api.Instance) int {
	k := keyOf(i)
	if n := slices.Index(b.keys, k); n >= 0 {
		return n
	}
	b.instances = append(b.instances, i)
	b.keys = append(b.keys, k)
	b.sites += len(codeOf(b.unit, i))
	return len(b.instances) - 1
}

// examine adds what the instructions of an instance call or start.
func (b *builder) examine(n int) {
	i := b.instances[n]
	numbers := make([]int, len(codeOf(b.unit, i)))
	for pc := range numbers {
		numbers[pc] = -1
		if callee, is := Callee(b.unit, i, pc); is {
			numbers[pc] = b.number(callee)
		}
	}
	b.calls = append(b.calls, numbers)
}

// roots returns the numbers of the instances in which threads begin, in ascending order.
func (b *builder) roots() []int {
	begins := make([]bool, len(b.instances))
	begins[0] = true
	for n, numbers := range b.calls {
		for pc, instr := range codeOf(b.unit, b.instances[n]) {
			if instr.Op == api.InstrGo {
				begins[numbers[pc]] = true
			}
		}
	}
	var l []int
	for n, is := range begins {
		if is {
			l = append(l, n)
		}
	}
	return l
}
