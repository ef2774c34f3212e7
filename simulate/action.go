package simulate

import (
	"lockorder/api"
	"lockorder/depth"
)

// risk is an action that is an event if its thread holds the mutex to certain depths.
type risk interface {
	// event returns the kind of the event if the thread holds the mutex to the depth held before, or 0.
	event(held int) int
}

// The actions that are risks.
type (
	locks   struct{ mutex api.Mutex }
	unlocks struct{}
)

func (l locks) event(held int) int {
	switch {
	case held < depth.Cap(l.mutex):
		return 0
	case l.mutex.Size == 0 && !l.mutex.Reentrant:
		return api.FindSelf
	}
	return api.FindOver
}

func (unlocks) event(held int) int {
	if held == 0 {
		return api.FindUnheld
	}
	return 0
}

// actionOf returns what an instruction with this operation does to the mutex m: a risk, or nil. Nothing can be done to a mutex that is not declared.
func actionOf(u api.Unit, op, m int) any {
	if !declared(u, m) {
		return nil
	}
	switch op {
	case api.InstrLock:
		return locks{u.Mutexes[m]}
	case api.InstrUnlock:
		return unlocks{}
	}
	return nil
}

// eventOf returns the kind and the mutex of the event that an action on the mutex m is for a thread that holds it to this depth, or else two zeros.
func eventOf(action any, m, held int) (int, int) {
	if r, is := action.(risk); is {
		if kind := r.event(held); kind != 0 {
			return kind, m
		}
	}
	return 0, 0
}

func declared(u api.Unit, m int) bool { return m >= 0 && m < len(u.Mutexes) }

// limit returns the greatest depth to which a path may hold the mutex m.
func limit(u api.Unit, m int) int {
	if !declared(u, m) {
		return 0
	}
	return depth.Cap(u.Mutexes[m])
}
