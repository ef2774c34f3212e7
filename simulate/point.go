package simulate

import (
	"lockorder/api"
	"lockorder/instance"
	"lockorder/table"
)

// points returns where the frames of a thread are, and true, or else false if the closure does not have all of their instances.
func points(u api.Unit, c api.Closure, frames []api.Frame) ([]api.Point, bool) {
	l := make([]api.Point, len(frames))
	for n, f := range frames {
		i := instance.Find(c, instanceOf(u, f))
		if i < 0 {
			return nil, false
		}
		l[n] = api.Point{Instance: i, PC: f.PC}
	}
	return l, true
}

// instanceOf returns the instance of which a frame is an activation.
func instanceOf(u api.Unit, f api.Frame) api.Instance {
	locks := make([]int, len(f.Locks))
	for n, element := range f.Locks {
		locks[n] = table.MutexOf(u.Mutexes, element)
	}
	return api.Instance{Proc: f.Proc, Locks: locks}
}
