package explore_test

import (
	"slices"
	"testing"

	"lockorder/api"
	"lockorder/explore"
	"lockorder/machine"
	"lockorder/schedule"
	"lockorder/waits"
)

// place is a state, and the first schedule that leads to it.
type place struct {
	picks []int
	state api.State
	key   string // the text of the state
}

// places are in the order in which they were found, as far as the first one that is too many.
type places []place

// next returns the places after the possible steps of all threads.
func (p place) next(u api.Unit) places {
	var l places
	for thread := range len(p.state.Threads) + 1 {
		if s, ok := machine.Step(u, p.state, thread); ok {
			l = append(l, place{append(slices.Clip(p.picks), thread), s, text(s)})
		}
	}
	return l
}

// first returns the place at the beginning.
func first(u api.Unit) place {
	s := machine.New(u)
	return place{nil, s, text(s)}
}

// byRounds returns what is found as P12.1 says.
func byRounds(u api.Unit, steps int) places {
	round := places{first(u)}
	whole := round
	seen := map[string]bool{round[0].key: true}
	for n := 1; n <= steps && n <= 200 && len(round) > 0; n++ {
		var next places
		for _, p := range round {
			for _, q := range p.next(u) {
				if !seen[q.key] && len(whole)+len(next) <= 500 {
					seen[q.key] = true
					next = append(next, q)
				}
			}
		}
		round, whole = next, append(whole, next...)
	}
	return whole
}

// bySchedules returns the same, as it follows from all schedules, the shorter ones first, and those of the same length in the order of their first picks that differ. It is for few steps only.
func bySchedules(u api.Unit, steps int) (whole places, schedules int) {
	seen := map[string]bool{}
	all := places{first(u)}
	for range steps + 1 {
		var longer places
		for _, p := range all {
			schedules++
			if !seen[p.key] {
				seen[p.key] = true
				whole = append(whole, p)
			}
			longer = append(longer, p.next(u)...)
		}
		all = longer
	}
	return whole, schedules
}

// firstDeadlock returns the index of the first of n places that has a deadlocked set, or -1.
func (l places) firstDeadlock(u api.Unit, n int) int {
	return slices.IndexFunc(l[:min(n, len(l))], func(p place) bool { return len(waits.Deadlocked(u, p.state)) > 0 })
}

// same reports whether the states are those of the places.
func (l places) same(states []api.State) bool {
	return slices.EqualFunc(l, states, func(p place, s api.State) bool { return p.key == text(s) })
}

// compare tests States and Search against the places within this number of steps.
func (l places) compare(t *testing.T, what string, u api.Unit, steps, most int) {
	t.Helper()
	n := min(max(most, 1), 500)
	want := l[:min(n, len(l))]
	states, all := explore.States(u, steps, most)
	if wantAll := len(l) <= n; all != wantAll || !want.same(states) {
		t.Fatalf("%.300s: States(%d, %d) = %v, %v; want %v, %v", what, steps, most, states, all, want, wantAll)
	}
	picks, ok := explore.Search(u, steps, most)
	var wantPicks []int
	index := l.firstDeadlock(u, n)
	if index >= 0 {
		wantPicks = l[index].picks
	}
	if wantOK := index >= 0; ok != wantOK || !slices.Equal(picks, wantPicks) {
		t.Fatalf("%.300s: Search(%d, %d) = %v, %v; want %v, %v", what, steps, most, picks, ok, wantPicks, wantOK)
	}
	if s, possible := schedule.Run(u, picks); ok && (possible != len(picks) || text(s) != l[index].key) { // P12.3
		t.Fatalf("%.300s: Search(%d, %d) = %v, which leads to %v; want %s", what, steps, most, picks, s, l[index].key)
	}
}
