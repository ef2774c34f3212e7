package model

import (
	"slices"

	"lockorder/api"
)

// visitor visits the configurations of the paths of one mutex, until it has found as many as most.
type visitor struct {
	paths
	most  int
	found []api.Config
}

// rounds adds what follows on the configurations that have been found, and on those that are added, for so many rounds.
func (v *visitor) rounds(n int) {
	first := 0
	for range n {
		// What is added in this round is for the next one.
		round := v.found[first:]
		first = len(v.found)
		for _, x := range round {
			if v.full() {
				return
			}
			v.addAll(v.steps(x))
		}
	}
}

func (v *visitor) full() bool { return len(v.found) == v.most }

func (v *visitor) addAll(l []api.Config) {
	for _, x := range l {
		v.add(x)
	}
}

// add adds a configuration, if it has not been found before and there is room for it.
func (v *visitor) add(x api.Config) {
	if !v.full() && !slices.ContainsFunc(v.found, func(y api.Config) bool { return Same(x, y) }) {
		v.found = append(v.found, x)
	}
}
