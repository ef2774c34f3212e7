package model

import (
	"slices"

	"lockorder/api"
	"lockorder/depth"
	"lockorder/flow"
)

// paths are those of one mutex through the instances of a closure.
type paths struct {
	unit    api.Unit
	closure api.Closure
	mutex   int
}

// steps returns the configurations that may follow on x.
func (p paths) steps(x api.Config) []api.Config {
	if len(x.Stack) == 0 {
		return nil
	}
	last := len(x.Stack) - 1
	callers, at := x.Stack[:last], x.Stack[last]
	instr, is := p.instruction(at)
	if !is {
		return nil
	}
	switch instr.Op {
	case api.InstrReturn:
		return []api.Config{config(x.Depth, callers)}
	case api.InstrCall:
		return p.enter(x.Depth, callers, at)
	}
	return p.proceed(x.Depth, callers, at)
}

// enter returns what follows on a call: the callee begins, and the last point is where it will return to.
func (p paths) enter(d int, callers []api.Point, at api.Point) []api.Config {
	callee, is := p.callee(at)
	if !is {
		return nil
	}
	back := api.Point{Instance: at.Instance, PC: at.PC + 1}
	return []api.Config{config(d, callers, back, api.Point{Instance: callee})}
}

// proceed returns what follows on an instruction that stays in its procedure.
func (p paths) proceed(d int, callers []api.Point, at api.Point) []api.Config {
	i := p.closure.Instances[at.Instance]
	depths := follow(flow.Relation(p.unit, i, at.PC, p.mutex), d)
	var l []api.Config
	for _, pc := range flow.Next(p.unit, i, at.PC) {
		for _, after := range depths {
			l = append(l, config(after, callers, api.Point{Instance: at.Instance, PC: pc}))
		}
	}
	return l
}

// follow returns the depths that may follow a depth by a relation.
func follow(r []int, d int) []int {
	if d < 0 || d >= len(r) {
		return nil
	}
	return depth.List(r[d])
}

// config returns a configuration with lists of points of which it keeps none.
func config(d int, callers []api.Point, more ...api.Point) api.Config {
	return api.Config{Depth: d, Stack: slices.Concat(callers, more)}
}

// instruction returns the instruction at a point, and true, or false if there is none.
func (p paths) instruction(at api.Point) (api.Instr, bool) {
	if at.Instance < 0 || at.Instance >= len(p.closure.Instances) {
		return api.Instr{}, false
	}
	number := p.closure.Instances[at.Instance].Proc
	if number < 0 || number >= len(p.unit.Procs) {
		return api.Instr{}, false
	}
	code := p.unit.Procs[number].Code
	if at.PC < 0 || at.PC >= len(code) {
		return api.Instr{}, false
	}
	return code[at.PC], true
}

// callee returns the number of the instance that the call at a point calls, and true. Only the closure of another unit may have none.
func (p paths) callee(at api.Point) (int, bool) {
	if at.Instance >= len(p.closure.Calls) || at.PC >= len(p.closure.Calls[at.Instance]) {
		return 0, false
	}
	return p.closure.Calls[at.Instance][at.PC], true
}
