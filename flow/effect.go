package flow

import (
	"lockorder/api"
	"lockorder/depth"
	"lockorder/instance"
)

// effect is what an instruction does to the depth of one mutex.
type effect interface {
	change() int
	relation(limit int) []int
}

// The three effects that there are.
type (
	locks   struct{}
	unlocks struct{}
	keeps   struct{}
)

func (locks) change() int   { return 1 }
func (unlocks) change() int { return -1 }
func (keeps) change() int   { return 0 }

func (locks) relation(limit int) []int   { return depth.Up(limit) }
func (unlocks) relation(limit int) []int { return depth.Down(limit) }
func (keeps) relation(limit int) []int   { return depth.Identity(limit) }

// effectOf returns the effect of an instruction of an instance on the mutex m. What is no instruction keeps the depth.
func effectOf(u api.Unit, i api.Instance, pc, m int) effect {
	code := codeOf(u, i)
	if pc < 0 || pc >= len(code) || instance.Mutex(i, code[pc].Place) != m {
		return keeps{}
	}
	switch code[pc].Op {
	case api.InstrLock:
		return locks{}
	case api.InstrUnlock:
		return unlocks{}
	}
	return keeps{}
}
