package edge

import (
	"lockorder/api"
	"lockorder/depth"
	"lockorder/instance"
	"lockorder/reach"
)

// finder finds edges. It computes the depths of each mutex once, since reach.May would compute them for each instruction.
type finder struct {
	mutexes []api.Mutex
	before  [][][]int     // for each mutex, what reach.Before returns
	locks   [][]api.Point // for each mutex, the instructions that lock it, in ascending order
}

func finderOf(u api.Unit, c api.Closure) finder {
	f := finder{mutexes: u.Mutexes, locks: make([][]api.Point, len(u.Mutexes))}
	for m := range u.Mutexes {
		f.before = append(f.before, reach.Before(u, c, m))
	}
	for number, i := range c.Instances {
		f.addLocks(u, number, i)
	}
	return f
}

// addLocks adds the instructions of the instance i, which has this number, that lock a mutex.
func (f finder) addLocks(u api.Unit, number int, i api.Instance) {
	if i.Proc < 0 || i.Proc >= len(u.Procs) {
		return
	}
	for pc, instr := range u.Procs[i.Proc].Code {
		m := instance.Mutex(i, instr.Place)
		if instr.Op == api.InstrLock && m >= 0 && m < len(f.locks) {
			f.locks[m] = append(f.locks[m], api.Point{Instance: number, PC: pc})
		}
	}
}

// edges returns the edges from the mutex held to the mutex acquired.
func (f finder) edges(held, acquired int) []api.Edge {
	// Only an array has another element to wait for. A scalar that is locked while it is held is another finding.
	if held == acquired && f.mutexes[held].Size == 0 {
		return nil
	}
	var l []api.Edge
	for _, at := range f.locks[acquired] {
		if f.mayHold(held, at) && f.mayWait(acquired, at) {
			l = append(l, api.Edge{Held: held, Acquired: acquired, Instance: at.Instance, PC: at.PC})
		}
	}
	return l
}

// mayHold reports whether reach.May is true of the mutex m.
func (f finder) mayHold(m int, at api.Point) bool {
	return f.set(m, at)&^depth.Full(0) != 0
}

// mayWait reports whether a thread that locks the mutex m might have to wait for it. Who holds a reentrant mutex can lock it again.
func (f finder) mayWait(m int, at api.Point) bool {
	return !f.mutexes[m].Reentrant || depth.Has(f.set(m, at), 0)
}

// set returns the depths of the mutex m before an instruction.
func (f finder) set(m int, at api.Point) int { return f.before[m][at.Instance][at.PC] }
