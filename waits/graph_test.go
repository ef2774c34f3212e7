package waits_test

import (
	"fmt"
	"math/rand"
	"slices"
	"strings"
	"testing"

	"lockorder/api"
	"lockorder/machine"
)

// graph says of each thread for which one it is to wait. The number of threads stands for none: the thread finishes, and a greater number for none, too: the thread goes on without end.
type graph []int

// program returns the text of a program in which the thread i holds the element i of an array and waits for the element of another one.
func (g graph) program() string {
	s := fmt.Sprintf("mutex a; mutex c[%d]; func f(i, k) { lock c[i]; if k < %d { lock c[k]; } while k > %d { } } func main() { ", len(g), len(g), len(g))
	for i := 1; i < len(g); i++ {
		s += fmt.Sprintf("go f(%d, %d); ", i, g[i])
	}
	return s + fmt.Sprintf("f(0, %d); }", g[0])
}

// state returns the state in which all threads have come to where they wait, have finished or go on without end.
func (g graph) state(t *testing.T) (api.Unit, api.State) {
	t.Helper()
	u := mustLower(t, g.program())
	s := machine.New(u)
	for range g {
		s, _ = machine.Step(u, s, 0)
	}
	for range 6 {
		for thread := range g {
			s, _ = machine.Step(u, s, thread)
		}
	}
	return u, s
}

// facts returns what is to be said about this state.
func (g graph) facts() facts {
	var f facts
	for thread, other := range g {
		switch {
		case other < len(g):
			f.waiting = append(f.waiting, wait{thread, 1 + other, other})
		case other > len(g):
			f.enabled = append(f.enabled, thread)
		}
		threads := g.from(thread)
		if len(threads) > 2*len(g) {
			f.deadlocked = append(f.deadlocked, thread)
		}
		if n := slices.Index(threads[1:], thread); n >= 0 && f.cycle == nil {
			f.cycle = threads[:n+1]
		}
	}
	return f
}

// from returns a thread, the one that it waits for, and so on, as far as there are any or more than twice as many as threads.
func (g graph) from(thread int) []int {
	l := []int{thread}
	for thread = g[thread]; thread < len(g) && len(l) <= 2*len(g); thread = g[thread] {
		l = append(l, thread)
	}
	return l
}

func (g graph) check(t *testing.T) {
	t.Helper()
	u, s := g.state(t)
	check(t, fmt.Sprint(g), u, s, g.facts())
}

func TestGraphs(t *testing.T) { // P11.1, P11.2, P11.3: cycles, and threads that wait for those on a cycle or for others
	for _, x := range []struct {
		graph             graph
		deadlocked, cycle []int
	}{
		{graph{2, 2}, nil, nil},
		{graph{0}, []int{0}, []int{0}},
		{graph{2, 1}, []int{1}, []int{1}},
		{graph{1, 1}, []int{0, 1}, []int{1}},
		{graph{0, 1}, []int{0, 1}, []int{0}},
		{graph{0, 0, 0, 0}, []int{0, 1, 2, 3}, []int{0}},
		{graph{1, 2, 0}, []int{0, 1, 2}, []int{0, 1, 2}},
		{graph{2, 0, 1}, []int{0, 1, 2}, []int{0, 2, 1}},
		{graph{1, 2, 3}, nil, nil},
		{graph{1, 2, 4}, nil, nil},
		{graph{3, 2, 1}, []int{1, 2}, []int{1, 2}},
		{graph{4, 2, 1}, []int{1, 2}, []int{1, 2}},
		// The cycle begins with its smallest number, and not with the thread that leads to it.
		{graph{3, 2, 3, 1}, []int{0, 1, 2, 3}, []int{1, 2, 3}},
		{graph{2, 0, 3, 2}, []int{0, 1, 2, 3}, []int{2, 3}},
		{graph{4, 3, 1, 2, 3}, []int{0, 1, 2, 3, 4}, []int{1, 3, 2}},
		// The smallest number counts, and not the one to which the thread 0 leads.
		{graph{4, 3, 5, 1, 5, 4}, []int{0, 1, 3, 4, 5, 2}, []int{1, 3}},
		{graph{2, 3, 0, 1}, []int{0, 1, 2, 3}, []int{0, 2}},
		{graph{3, 4, 6, 0, 1, 7}, []int{0, 1, 3, 4}, []int{0, 3}},
		{graph{1, 2, 3, 4, 6, 5}, []int{5}, []int{5}},
	} {
		slices.Sort(x.deadlocked)
		f := x.graph.facts()
		if !slices.Equal(f.deadlocked, x.deadlocked) || !slices.Equal(f.cycle, x.cycle) {
			t.Errorf("in %v, %v are deadlocked and %v is a cycle; want %v and %v", x.graph, f.deadlocked, f.cycle, x.deadlocked, x.cycle)
		}
		x.graph.check(t)
	}
}

func TestAllSmallGraphs(t *testing.T) { // P11.1, P11.2, P11.3
	count := 0
	var walk func(g graph, n int)
	walk = func(g graph, n int) {
		if len(g) == n {
			count++
			g.check(t)
			return
		}
		for other := range n + 2 {
			walk(append(slices.Clip(g), other), n)
		}
	}
	for n := 1; n <= 4; n++ {
		walk(nil, n)
	}
	if want := 3 + 4*4 + 5*5*5 + 6*6*6*6; count != want {
		t.Errorf("%d graphs; want %d", count, want)
	}
}

func TestManyThreads(t *testing.T) { // P11.1, P11.2, P11.3: as many threads as there may be
	const n = api.MaxThreads
	var up, down, behind, twos, own, chain graph
	for i := range n {
		up = append(up, (i+1)%n)
		down = append(down, (i+n-1)%n)
		behind = append(behind, max(i-1, 0))
		twos = append(twos, i^1)
		own = append(own, i)
		chain = append(chain, i+1)
	}
	last := slices.Clone(chain)
	last[n-1] = n - 2
	endless := slices.Clone(chain)
	endless[n-1] = n + 1
	for _, g := range []graph{up, down, behind, twos, own, chain, last, endless} {
		g.check(t)
	}
	if f := up.facts(); !slices.Equal(f.cycle, upTo(n)) || !slices.Equal(f.deadlocked, upTo(n)) {
		t.Errorf("the greatest cycle is %v", f.cycle)
	}
	if f := last.facts(); !slices.Equal(f.cycle, []int{n - 2, n - 1}) || !slices.Equal(f.deadlocked, upTo(n)) {
		t.Errorf("the last cycle is %v", f.cycle)
	}
	if f := chain.facts(); f.cycle != nil || f.deadlocked != nil || len(f.waiting) != n-1 {
		t.Errorf("%v is a cycle without an end", f.cycle)
	}
}

func TestRandomGraphs(t *testing.T) { // P11.1, P11.2, P11.3
	r := rand.New(rand.NewSource(1))
	deadlocked, cycles, lengths := map[bool]int{}, map[bool]int{}, map[int]int{}
	for range 400 {
		n := 1 + r.Intn(api.MaxThreads)
		end := r.Intn(3 + r.Intn(n)) // the more there is of it, the fewer threads are deadlocked
		var g graph
		for range n {
			g = append(g, min(r.Intn(n+1+end), n+r.Intn(2)))
		}
		g.check(t)
		f := g.facts()
		deadlocked[len(f.deadlocked) > 0]++
		cycles[len(f.cycle) < len(f.deadlocked)]++
		lengths[len(f.cycle)]++
	}
	if min(deadlocked[true], deadlocked[false], cycles[true], cycles[false]) < 50 || len(lengths) < 8 {
		t.Errorf("%v deadlocks, %v that are no cycle, the lengths %v", deadlocked, cycles, lengths)
	}
	if !strings.Contains(graph{1, 0}.program(), "go f(1, 0); f(0, 1);") {
		t.Errorf("%s", graph{1, 0}.program())
	}
}
