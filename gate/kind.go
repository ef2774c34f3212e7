package gate

import (
	"slices"

	"lockorder/api"
)

// kind is what the number of a mutex stands for.
type kind int

const (
	nothing kind = iota // there is no mutex with this number
	scalar
	array
)

func kindOf(mutexes []api.Mutex, m int) kind {
	switch {
	case m < 0 || m >= len(mutexes):
		return nothing
	case mutexes[m].Size > 0:
		return array
	}
	return scalar
}

// hasLoop reports whether one of the edges leads from an array to itself.
func hasLoop(mutexes []api.Mutex, l []api.Edge) bool {
	return slices.ContainsFunc(l, func(e api.Edge) bool {
		return e.Held == e.Acquired && kindOf(mutexes, e.Held) == array
	})
}
