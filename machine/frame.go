package machine

import (
	"lockorder/api"
	"lockorder/table"
)

// procedure returns the procedure with this number, or an empty one if there is none.
func procedure(u api.Unit, number int) api.Proc {
	if number < 0 || number >= len(u.Procs) {
		return api.Proc{}
	}
	return u.Procs[number]
}

// newFrame returns the frame with which a procedure begins. No procedure of a program has more local variables than a program has tokens, so that keeping to this limit only matters for what is no code of a program.
func newFrame(u api.Unit, number int, values, elements []int) api.Frame {
	ints := make([]int, min(max(procedure(u, number).Locals, 0), api.MaxTokens))
	copy(ints, values)
	return api.Frame{Proc: number, Ints: ints, Locks: duplicate(elements)}
}

// current returns the last frame of a thread and the instruction at its PC, or false if the thread cannot carry out any.
func current(u api.Unit, s api.State, t int) (api.Frame, api.Instr, bool) {
	if s.Fault != 0 || t < 0 || t >= len(s.Threads) || len(s.Threads[t].Frames) == 0 {
		return api.Frame{}, api.Instr{}, false
	}
	frames := s.Threads[t].Frames
	last := frames[len(frames)-1]
	code := procedure(u, last.Proc).Code
	if last.PC < 0 || last.PC >= len(code) {
		return api.Frame{}, api.Instr{}, false
	}
	return last, code[last.PC], true
}

// frameFits reports whether f could be a frame of its procedure.
func frameFits(u api.Unit, f api.Frame) bool {
	p := procedure(u, f.Proc)
	// A number that is none of a procedure has no code, and therefore no PC.
	if f.PC < 0 || f.PC >= len(p.Code) || len(f.Ints) != p.Locals || len(f.Locks) != p.Locks {
		return false
	}
	for _, element := range f.Locks {
		if table.MutexOf(u.Mutexes, element) < 0 {
			return false
		}
	}
	return true
}
