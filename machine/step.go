package machine

import (
	"lockorder/api"
	"lockorder/table"
	"lockorder/value"
)

// inputs are what an instruction works with, in the order of its expressions and places.
type inputs struct{ values, elements []int }

// uses returns the expressions and the places of an instruction that are evaluated before it changes anything.
func uses(i api.Instr) ([]api.Expr, []api.Place) {
	switch i.Op {
	case api.InstrSet, api.InstrBranch:
		return []api.Expr{i.Expr}, nil
	case api.InstrCall, api.InstrGo:
		return i.Ints, i.Places
	case api.InstrLock, api.InstrUnlock:
		return nil, []api.Place{i.Place}
	}
	return nil, nil
}

// evaluate returns the inputs of an instruction of the frame f and 0, or else the first fault.
func evaluate(u api.Unit, globals []int, f api.Frame, i api.Instr) (inputs, int) {
	var in inputs
	expressions, places := uses(i)
	for _, e := range expressions {
		n, fault := value.Eval(e, globals, f.Ints)
		if fault != 0 {
			return inputs{}, fault
		}
		in.values = append(in.values, n)
	}
	for _, p := range places {
		n, fault := element(u, globals, f, p)
		if fault != 0 {
			return inputs{}, fault
		}
		in.elements = append(in.elements, n)
	}
	return in, 0
}

// element returns the number of the element that a place of the frame f names and 0, or else 0 and a fault. It is -1 if there is no such mutex, as in package table.
func element(u api.Unit, globals []int, f api.Frame, p api.Place) (int, int) {
	if p.Param {
		if p.Index < 0 || p.Index >= len(f.Locks) {
			return -1, 0
		}
		return f.Locks[p.Index], 0
	}
	n, fault := value.Index(p, u.Mutexes, globals, f.Ints)
	if fault != 0 {
		return 0, fault
	}
	return table.Base(u.Mutexes, p.Index) + n, 0
}

// misuse returns the fault of an instruction that has its inputs, or 0.
func misuse(u api.Unit, s api.State, t int, i api.Instr, in inputs) int {
	switch i.Op {
	case api.InstrGo:
		if len(s.Threads) >= api.MaxThreads {
			return api.FaultThreads
		}
	case api.InstrUnlock:
		if _, ok := table.Unlock(u.Mutexes, s.Table, in.elements[0], t); !ok {
			return api.FaultUnlock
		}
	}
	return 0
}

// change changes s as an instruction of the thread t does for which nothing is missing.
func change(u api.Unit, s *api.State, t int, i api.Instr, in inputs) {
	frames := s.Threads[t].Frames
	last := &frames[len(frames)-1]
	last.PC++
	switch i.Op {
	case api.InstrSet:
		assign(s.Globals, last.Ints, i, in.values[0])
	case api.InstrCall:
		s.Threads[t].Frames = append(frames, newFrame(u, i.Target, in.values, in.elements))
	case api.InstrGo:
		first := newFrame(u, i.Target, in.values, in.elements)
		s.Threads = append(s.Threads, api.Thread{Frames: []api.Frame{first}})
	case api.InstrLock:
		s.Table, _ = table.Lock(u.Mutexes, s.Table, in.elements[0], t)
	case api.InstrUnlock:
		s.Table, _ = table.Unlock(u.Mutexes, s.Table, in.elements[0], t)
	case api.InstrBranch:
		if in.values[0] == 0 {
			last.PC = i.Target
		}
	case api.InstrJump:
		last.PC = i.Target
	case api.InstrReturn:
		s.Threads[t].Frames = frames[:len(frames)-1]
	}
}

// assign gives the variable of an InstrSet its value.
func assign(globals, locals []int, i api.Instr, n int) {
	variables := locals
	if i.Global {
		variables = globals
	}
	if i.Target >= 0 && i.Target < len(variables) {
		variables[i.Target] = n
	}
}
