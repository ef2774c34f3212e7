package model_test

import (
	"slices"
	"strconv"
	"strings"
	"testing"

	"lockorder/api"
	"lockorder/model"
	"lockorder/reach"
)

// procedure returns the procedure with a name.
func (s subject) procedure(name string) api.Proc {
	i := slices.IndexFunc(s.unit.Procs, func(p api.Proc) bool { return p.Name == name })
	return s.unit.Procs[i]
}

// limit returns the greatest depth of the mutex m.
func (s subject) limit(m int) int {
	if x := s.unit.Mutexes[m]; x.Size == 0 && !x.Reentrant {
		return 1
	}
	return 8
}

// follow returns the configurations that follow on one, both as texts: instances and mutexes only have names here.
func (s subject) follow(m int, config string) []string {
	words := strings.Fields(config)
	if len(words) == 1 {
		return []string{}
	}
	callers, last := words[:len(words)-1], words[len(words)-1]
	instance, number, _ := strings.Cut(last, ":")
	name, rest, _ := strings.Cut(strings.TrimSuffix(instance, ")"), "(")
	meanings := strings.Split(rest, ",")
	meaning := func(p api.Place) string {
		if p.Param {
			return meanings[p.Index]
		}
		return s.unit.Mutexes[p.Index].Name
	}
	pc, _ := strconv.Atoi(number)
	instr := s.procedure(name).Code[pc]
	point := func(pc int) string { return instance + ":" + strconv.Itoa(pc) }
	with := func(points ...string) string { return strings.Join(slices.Concat(callers, points), " ") }
	switch instr.Op {
	case api.InstrReturn:
		return []string{with()}
	case api.InstrCall:
		var mutexes []string
		for _, p := range instr.Places {
			mutexes = append(mutexes, meaning(p))
		}
		return []string{with(point(pc+1), s.unit.Procs[instr.Target].Name+"("+strings.Join(mutexes, ",")+"):0")}
	case api.InstrJump:
		return []string{with(point(instr.Target))}
	case api.InstrBranch:
		l := []string{with(point(pc + 1)), with(point(instr.Target))}
		if instr.Target < pc+1 {
			slices.Reverse(l)
		}
		return slices.Compact(l)
	case api.InstrLock, api.InstrUnlock:
		if meaning(instr.Place) == s.unit.Mutexes[m].Name {
			d, _ := strconv.Atoi(callers[0])
			d += map[int]int{api.InstrLock: 1, api.InstrUnlock: -1}[instr.Op]
			if d < 0 || d > s.limit(m) {
				return []string{}
			}
			callers[0] = strconv.Itoa(d)
		}
	}
	return []string{with(point(pc + 1))}
}

// begin returns the configurations in which threads begin, as P13.2 describes the roots.
func (s subject) begin() []string {
	l := []string{}
	for n := range s.closure.Instances {
		if slices.Contains(s.closure.Roots, n) {
			l = append(l, "0 "+s.name(n)+":0")
		}
	}
	return l
}

// byRounds returns what is found as P18.2 says, as far as there may be any need of it.
func (s subject) byRounds(m, steps int) []string {
	round := s.begin()
	whole := slices.Clone(round)
	seen := map[string]bool{}
	for _, x := range round {
		seen[x] = true
	}
	for n := 1; n <= steps && n <= 100 && len(whole) <= 500; n++ {
		var next []string
		for _, x := range round {
			for _, y := range s.follow(m, x) {
				if !seen[y] {
					seen[y] = true
					next = append(next, y)
				}
			}
		}
		round, whole = next, append(whole, next...)
	}
	return whole
}

// byPaths returns the same, as it follows from all paths, the shorter ones first, and those of the same length in the order of their roots and then of the first steps that differ. It is for few steps only.
func (s subject) byPaths(m, steps int) (whole []string, paths int) {
	all := s.begin()
	for range steps + 1 {
		paths += len(all)
		var longer []string
		for _, x := range all {
			if !slices.Contains(whole, x) {
				whole = append(whole, x)
			}
			longer = append(longer, s.follow(m, x)...)
		}
		all = longer
	}
	return whole, paths
}

// seen counts what programs have.
type seen struct {
	programs, mutexes int
	paths             int    // those that byPaths has followed
	many, endless     int    // mutexes with more than 500 configurations, and others with more than 100 rounds
	following         [3]int // configurations on which so many follow
	high              int    // configurations with a depth above 1
	calls, ends       int    // configurations with more than one point, or none
	whole, parts      int    // mutexes for which all configurations are compared with package reach, or only some
}

// compareVisit tests P18.2 for a mutex, with this number of steps and some numbers of configurations.
func (s subject) compareVisit(t *testing.T, m, steps int, want []string, numbers ...int) {
	t.Helper()
	for _, n := range append(numbers, len(want)-1, len(want), len(want)+1, 500) {
		n = min(max(n, 1), 500)
		got, want := s.texts(s.visit(m, steps, n)), want[:min(n, len(want))]
		if !slices.Equal(got, want) {
			t.Fatalf("%s: for mutex %d, within %d steps, of which there may be %d, there are %q; want %q", s.source, m, steps, n, got, want)
		}
	}
}

// compare tests all functions for a program, with all paths of few steps.
func (s subject) compare(t *testing.T, few int, count *seen) {
	t.Helper()
	count.programs++
	for i, root := range s.closure.Roots {
		if got := s.text(model.Begin(s.closure, root)); got != s.begin()[i] {
			t.Fatalf("%s: Begin(%d) = %s", s.source, root, got)
		}
	}
	for m := range s.unit.Mutexes {
		count.mutexes++
		for steps := range few + 1 {
			want, paths := s.byPaths(m, steps)
			s.compareVisit(t, m, steps, want, 2, 3, 5, 8)
			count.paths += paths
		}
		want := s.byRounds(m, 100)
		s.compareVisit(t, m, 100, want, 20, 50, 100, 200)
		s.compareVisit(t, m, 17, s.byRounds(m, 17))
		s.compareConfigs(t, m, s.visit(m, 100, 500), count)
		if len(want) > 500 {
			count.many++
		} else if len(s.byRounds(m, 99)) < len(want) {
			count.endless++
		}
	}
}

// compareConfigs tests P18.1, P18.3 and the first part of P18.4 for configurations that Visit has found.
func (s subject) compareConfigs(t *testing.T, m int, l []api.Config, count *seen) {
	t.Helper()
	before := reach.Before(s.unit, s.closure, m)
	for n, x := range l {
		text := s.text(x)
		want := s.follow(m, text)
		if got := s.texts(s.steps(m, x)); !slices.Equal(got, want) {
			t.Fatalf("%s: for mutex %d, on %s follow %q; want %q", s.source, m, text, got, want)
		}
		count.following[len(want)]++
		count.high += min(x.Depth/2, 1)
		count.calls += min(len(x.Stack)/2, 1)
		other := l[(n*7+3)%len(l)]
		if !model.Same(x, s.config(t, text)) || model.Same(x, other) != (text == s.text(other)) {
			t.Fatalf("%s: Same for %s or %s", s.source, text, s.text(other))
		}
		if len(x.Stack) == 0 {
			count.ends++
			continue
		}
		at := x.Stack[len(x.Stack)-1]
		if set := before[at.Instance][at.PC]; set>>x.Depth&1 != 1 {
			t.Fatalf("%s: for mutex %d, the depths before %v are %d, but there is %s", s.source, m, at, set, text)
		}
		if n%60 == 0 { // Covered takes its time.
			s.compareCovered(t, m, x, before[at.Instance][at.PC])
		}
	}
}

// compareCovered tests P18.3 for all depths in the place of that of a configuration.
func (s subject) compareCovered(t *testing.T, m int, x api.Config, set int) {
	t.Helper()
	for d := -1; d <= 9; d++ {
		x.Depth = d
		if got := s.covered(m, x); got != (d >= 0 && set>>d&1 == 1) {
			t.Fatalf("%s: for mutex %d, the depths are %d, but %s is covered: %v", s.source, m, set, s.text(x), got)
		}
	}
}

// pathSets returns the depths before the instructions on all paths on which no more points are open than height, and whether these are all paths. It finds the paths with Begin and Steps.
func (s subject) pathSets(m, height int) ([][]int, bool) {
	l, whole := make([][]int, len(s.closure.Instances)), true
	for i, calls := range s.closure.Calls {
		l[i] = make([]int, len(calls))
	}
	known := map[string]bool{}
	var list []api.Config
	add := func(x api.Config) {
		if len(x.Stack) > height {
			whole = false
		} else if text := s.text(x); !known[text] {
			known[text] = true
			list = append(list, x)
		}
	}
	for _, root := range s.closure.Roots {
		add(model.Begin(s.closure, root))
	}
	for len(list) > 0 {
		x := list[len(list)-1]
		list = list[:len(list)-1]
		if len(x.Stack) > 0 {
			at := x.Stack[len(x.Stack)-1]
			l[at.Instance][at.PC] |= 1 << x.Depth
		}
		for _, y := range s.steps(m, x) {
			add(y)
		}
	}
	return l, whole
}

// comparePaths tests P18.4: the depths of all paths are those of package reach. Where a path may have more points than are followed, they are only contained in those.
func (s subject) comparePaths(t *testing.T, m, height int, count *seen) {
	t.Helper()
	got, whole := s.pathSets(m, height)
	within := func(a, b int) bool { return a == b || !whole && a&^b == 0 }
	before := reach.Before(s.unit, s.closure, m)
	if !slices.EqualFunc(got, before, func(a, b []int) bool { return slices.EqualFunc(a, b, within) }) {
		t.Fatalf("%s: for mutex %d, the depths on paths are %v, but those of package reach %v", s.source, m, got, before)
	}
	if whole {
		count.whole++
	} else {
		count.parts++
	}
}
