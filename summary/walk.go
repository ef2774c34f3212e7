package summary

import "lockorder/depth"

// walk finds the least relations before the instructions of one instance.
type walk struct {
	next   func(pc int) []int // where control may go after an instruction
	across func(pc int) []int // which depths may follow which by an instruction
	before [][]int            // the relations found so far
	grown  []bool             // for each instruction, whether its relation has grown since it was carried on
}

// from finds the relations that follow when the one before instruction 0 contains start.
func (w *walk) from(start []int) {
	w.add(0, start)
	for again := true; again; {
		again = false
		// In ascending order, only loops make it necessary to carry on an instruction a second time.
		for pc := range w.grown {
			if w.grown[pc] {
				w.carry(pc)
				again = true
			}
		}
	}
}

// carry adds what follows by an instruction to the instructions after it.
func (w *walk) carry(pc int) {
	w.grown[pc] = false
	after := depth.Compose(w.before[pc], w.across(pc))
	for _, n := range w.next(pc) {
		w.add(n, after)
	}
}

// add adds a relation to the one before an instruction.
func (w *walk) add(pc int, r []int) {
	if !depth.Within(r, w.before[pc]) {
		w.before[pc] = depth.Union(w.before[pc], r)
		w.grown[pc] = true
	}
}
