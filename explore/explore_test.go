package explore_test

import (
	"fmt"
	"slices"
	"strings"
	"testing"

	"lockorder/api"
	"lockorder/explore"
	"lockorder/lower"
	"lockorder/machine"
	"lockorder/parse"
	"lockorder/schedule"
	"lockorder/waits"
)

const least, most = -1 << 63, 1<<63 - 1

// text returns a text that is the same for equal states only.
func text(s api.State) string { return fmt.Sprint(s) }

// mustLower returns the code of a text that is a right program.
func mustLower(t *testing.T, s string) api.Unit {
	t.Helper()
	p, n, errno := parse.Program([]byte(s))
	if errno != api.OK {
		t.Fatalf("Program(%.80q) = %d, %d", s, n, errno)
	}
	u, f, n, errno := lower.Lower(p)
	if errno != api.OK {
		t.Fatalf("Lower(%.80q) = %d, %d, %d", s, f, n, errno)
	}
	return u
}

// two is a program of two threads whose steps do not depend on one another.
const two = "var x; var y; func f() { y = 1; } func main() { go f(); x = 1; }"

// crossed is the program of the example.
const crossed = "mutex a; mutex b; func f() { lock b; lock a; unlock a; unlock b; } func main() { go f(); lock a; lock b; unlock b; unlock a; }"

// endless is a program with a new state after each step.
const endless = "var x; func main() { while 1 { x = x + 1; } }"

// grid returns a program of as many states before its second thread starts, and then width*width states.
func grid(before, width int) string {
	x := func(n int) string { return strings.Repeat("x = 1;", n) }
	return "var x = 1; func f() {" + x(width-2) + "} func main() {" + x(before-1) + "go f();" + x(width-2) + "}"
}

func TestNumberOfStates(t *testing.T) { // P12.1
	for _, c := range []struct {
		program     string
		steps, most int
		n           int
		all         bool
	}{
		// The rounds, and the numbers of steps to which steps is clamped.
		{"func main() { }", 0, 500, 1, true},
		{"func main() { }", 1, 500, 2, true},
		{"func main() { }", 2, 500, 2, true},
		{"func main() { }", -1, 500, 1, true},
		{endless, least, 500, 1, true},
		{endless, -1, 500, 1, true},
		{endless, 0, 500, 1, true},
		{endless, 1, 500, 2, true},
		{endless, 77, 500, 78, true},
		{endless, 199, 500, 200, true},
		{endless, 200, 500, 201, true},
		{endless, 201, 500, 201, true},
		{endless, most, 500, 201, true},
		// The numbers to which most is clamped. As many states as that are not too many.
		{endless, 10, least, 1, false},
		{endless, 10, -1, 1, false},
		{endless, 10, 0, 1, false},
		{endless, 10, 1, 1, false},
		{endless, 10, 2, 2, false},
		{endless, 10, 10, 10, false},
		{endless, 10, 11, 11, true},
		{endless, 10, 12, 11, true},
		{endless, 10, most, 11, true},
		{endless, 0, least, 1, true},
		{endless, least, least, 1, true},
		{endless, most, most, 201, true},
		{grid(16, 22), 200, 500, 500, true},
		{grid(16, 22), 200, 501, 500, true},
		{grid(16, 22), 200, 499, 499, false},
		{grid(17, 22), 200, 500, 500, false},
		{grid(17, 22), 200, 501, 500, false},
		{grid(17, 22), 200, most, 500, false},
		{grid(17, 22), most, 499, 499, false},
		{grid(17, 22), 17 + 41, 500, 500, true},
		{grid(17, 22), 17 + 42, 500, 500, false},
		// States that have occurred: in the same round, in the one before, in earlier ones, and at the beginning.
		{two, 3, 500, 7, true},
		{two, 4, 500, 9, true},
		{two, 5, 500, 10, true},
		{two, 6, 500, 10, true},
		{two, 200, 10, 10, true},
		{two, 200, 9, 9, false},
		{"func main() { while 1 { } }", 200, 500, 2, true},
		{"func main() { while 1 { } }", 200, 2, 2, true},
		{"var x; func main() { while 1 { x = 1 - x; } }", 200, 500, 6, true},
		{"mutex a; func main() { while 1 { lock a; unlock a; } }", 200, 500, 4, true},
		{"mutex a; func f() { } func main() { while 1 { f(); } }", 200, 500, 4, true},
		// States that only differ in one respect.
		{"func main() { var i = 0; while 1 { i = i + 1; } }", 199, 500, 200, true},
		{"rmutex r; func main() { while 1 { lock r; } }", 23, 500, 24, true},
		{"func main() { main(); }", 200, 500, 201, true},
		{"func f(n) { f(n - 1); } func main() { f(5); }", 200, 500, 201, true},
		{"mutex c[2]; var x; func g(mutex m) { } func f() { x = 1; x = 0; } func main() { go f(); g(mutex c[x]); }", 200, 500, 20, true},
		// No step is possible, after a fault either, which counts as a step.
		{"mutex a; func main() { lock a; lock a; }", 200, 500, 2, true},
		{"var x; func main() { x = 1; x = 1 / 0; x = 2; }", 200, 500, 3, true},
		{"var x; func main() { x = 1; x = 1 / 0; x = 2; }", 2, 500, 3, true},
		{"var x; func main() { x = 1; x = 1 / 0; x = 2; }", 1, 500, 2, true},
		{"mutex a; func main() { unlock a; }", 200, 500, 2, true},
		{"mutex a; func f() { lock a; } func main() { lock a; go f(); }", 200, 500, 4, true},
	} {
		u := mustLower(t, c.program)
		l, all := explore.States(u, c.steps, c.most)
		if len(l) != c.n || all != c.all {
			t.Errorf("%.120s: States within %d steps, of which there may be %d, are %d, %v; want %d, %v", c.program, c.steps, c.most, len(l), all, c.n, c.all)
		}
		byRounds(u, c.steps).compare(t, c.program, u, c.steps, c.most)
	}
}

func TestOrder(t *testing.T) { // P12.1: round by round, state by state, thread by thread
	for _, c := range []struct {
		program   string
		schedules string
	}{
		{"func main() { }", "- 0"},
		{two, "- 0 00 01 000 001 011 0001 0011 00011"},
		// The steps of the last thread come last, and those of the one that waits or has finished are left out.
		{"mutex a; func f() { lock a; } func main() { go f(); go f(); }", "- 0 00 01 000 001 002 011 0001 0002 0011 0022 00011 00022"},
		{"mutex a; func f() { lock a; unlock a; } func main() { go f(); lock a; unlock a; }", "- 0 00 01 000 011 0000 0001 0110 0111 00001 00011 01101 000011 000111 0000111"},
		// A round begins with the states after those of its first state, and not with those of its first thread.
		{"var x; func f() { x = 2 * x; } func main() { go f(); x = x + 1; }", "- 0 00 01 000 001 010 011 0001 0011 0100 0101 00011 01001"},
		{"var x; func f() { while 1 { x = 1; } } func main() { go f(); x = 1 / x; }", "- 0 00 01 010 011 0110 0111 01100 01101 01111 011001 011011 0110011"},
	} {
		u := mustLower(t, c.program)
		l, all := explore.States(u, 200, 500)
		var states []string
		for _, s := range l {
			states = append(states, text(s))
		}
		var want []string
		for _, picks := range strings.Fields(c.schedules) {
			s := machine.New(u)
			for _, pick := range strings.Trim(picks, "-") {
				next, ok := machine.Step(u, s, int(pick-'0'))
				if !ok {
					t.Errorf("%s: the schedule %s is not possible", c.program, picks)
				}
				s = next
			}
			want = append(want, text(s))
		}
		if !slices.Equal(states, want) || !all {
			t.Errorf("%s: the states %v, %v; want %v", c.program, states, all, want)
		}
	}
}

// philosophers returns a program in which each of n threads locks one element and then the next one.
func philosophers(n int) string {
	s := fmt.Sprintf("mutex c[%d]; func f(i, k) { lock c[i]; lock c[k]; unlock c[k]; unlock c[i]; } func main() { ", n)
	for i := 1; i < n; i++ {
		s += fmt.Sprintf("go f(%d, %d); ", i, (i+1)%n)
	}
	return s + "lock c[0]; lock c[1]; unlock c[1]; unlock c[0]; }"
}

func TestSearch(t *testing.T) { // P12.2
	late := func(n int) string {
		return "var x; mutex a; func main() { " + strings.Repeat("x = 1;", n) + "lock a; lock a; }"
	}
	for _, c := range []struct {
		program     string
		steps, most int
		picks       []int
		ok          bool
	}{
		{crossed, 200, 500, []int{0, 0, 1}, true},
		{crossed, 3, 500, []int{0, 0, 1}, true},
		{crossed, 2, 500, nil, false},
		{crossed, -5, 500, nil, false},
		{crossed, most, most, []int{0, 0, 1}, true},
		{crossed, least, least, nil, false},
		// The states are - 0 00 01 000 001: it is the sixth one.
		{crossed, 200, 6, []int{0, 0, 1}, true},
		{crossed, 200, 5, nil, false},
		{crossed, 200, 0, nil, false},
		// A thread that waits for itself.
		{"mutex a; func main() { lock a; lock a; }", 200, 500, []int{0}, true},
		{"mutex a; func f(mutex m) { lock m; } func main() { lock a; f(mutex a); }", 200, 500, []int{0, 0}, true},
		{"mutex a; func f() { lock a; lock a; } func main() { go f(); }", 200, 500, []int{0, 1}, true},
		{"mutex c[3]; func main() { var i = 2; lock c[i]; lock c[i - 1]; lock c[2]; }", 200, 500, []int{0, 0, 0}, true},
		// The shortest schedule, and the first one among those.
		{philosophers(2), 200, 500, []int{0, 0, 1}, true},
		{philosophers(3), 200, 500, []int{0, 0, 0, 1, 2}, true},
		{philosophers(4), 200, 500, []int{0, 0, 0, 0, 1, 2, 3}, true},
		{"mutex a; mutex b; var x; func f() { x = 1; lock b; lock a; } func main() { go f(); lock a; x = 2; lock b; }", 200, 500, []int{0, 0, 0, 1, 1}, true},
		{"mutex a; var x; func f() { if x { lock a; lock a; } } func main() { go f(); x = 1; }", 200, 500, []int{0, 0, 1, 1}, true},
		{"mutex a; var x; func f() { if x { } else { lock a; lock a; } } func main() { go f(); x = 1; }", 200, 500, []int{0, 1, 1}, true},
		{"mutex a; mutex b; func f() { lock b; lock b; } func g() { lock a; lock a; } func main() { go f(); go g(); }", 200, 500, []int{0, 1}, true},
		{"mutex a; mutex b; func f() { lock b; lock b; } func g() { lock a; lock a; } func main() { go f(); go g(); lock b; }", 3, 7, []int{0, 1}, true},
		{"mutex a; mutex b; func f() { while 1 { } } func g() { lock a; lock a; } func main() { go f(); go g(); lock b; lock b; }", 200, 500, []int{0, 0, 0}, true},
		// An index that another thread changes.
		{"mutex c[2]; var x; func f() { x = 1; } func main() { go f(); lock c[0]; lock c[x]; }", 200, 500, []int{0, 0}, true},
		{"mutex c[2]; var x = 1; func f() { x = 0; } func main() { go f(); lock c[0]; lock c[x]; }", 200, 500, []int{0, 0, 1}, true},
		// Nothing is deadlocked: the orders are the same, a gate is held, a mutex is reentrant, a thread has finished or there is a fault.
		{"func main() { }", 200, 500, nil, false},
		{"mutex a; mutex b; func f() { lock a; lock b; } func main() { go f(); lock a; lock b; }", 200, 500, nil, false},
		{"mutex g; mutex a; mutex b; func f() { lock g; lock b; lock a; unlock a; unlock b; unlock g; } func main() { go f(); lock g; lock a; lock b; unlock b; unlock a; unlock g; }", 200, 500, nil, false},
		{"rmutex r; func main() { lock r; lock r; lock r; }", 200, 500, nil, false},
		{"mutex a; func f() { lock a; } func main() { go f(); lock a; }", 200, 500, nil, false},
		{"mutex a; var x; func main() { lock a; x = 1 / x; lock a; }", 200, 500, nil, false},
		{"mutex a; mutex b; func main() { lock a; unlock b; lock a; }", 200, 500, nil, false},
		// The numbers to which steps and most are clamped.
		{late(198), most, 500, make([]int, 199), true},
		{late(199), 200, 500, make([]int, 200), true},
		{late(199), most, most, make([]int, 200), true},
		{late(199), 199, 500, nil, false},
		{late(200), 201, 500, nil, false},
		{late(200), most, most, nil, false},
		{late(5), 200, 7, make([]int, 6), true},
		{late(5), 200, 6, nil, false},
		{"mutex a; func main() { lock a; lock a; }", 1, 2, []int{0}, true},
		{"mutex a; func main() { lock a; lock a; }", 1, 1, nil, false},
		{"mutex a; func main() { lock a; lock a; }", 0, 2, nil, false},
	} {
		u := mustLower(t, c.program)
		if picks, ok := explore.Search(u, c.steps, c.most); !slices.Equal(picks, c.picks) || ok != c.ok {
			t.Errorf("%.120s: Search within %d steps and %d states = %v, %v; want %v, %v", c.program, c.steps, c.most, picks, ok, c.picks, c.ok)
		}
		byRounds(u, c.steps).compare(t, c.program, u, c.steps, c.most)
	}
}

// deep returns a program as grid does, but the first thread waits for itself at its end.
func deep(before, width int) string {
	x := func(n int) string { return strings.Repeat("x = 1;", n) }
	return "var x = 1; mutex a; func f() {" + x(width-2) + "} func main() {" + x(before-1) + "go f();" + x(width-3) + "lock a; lock a; }"
}

func TestSearchAtTheEnd(t *testing.T) { // P12.2: the last one of the states counts, and the one after it does not
	for width := 3; width < 24; width += 5 {
		u := mustLower(t, deep(3, width))
		whole := byRounds(u, 200)
		index := whole.firstDeadlock(u, 500)
		if index < width {
			t.Fatalf("the first deadlocked state of %d is %d", len(whole), index)
		}
		for _, n := range []int{1, index, index + 1, index + 2, 500} {
			picks, ok := explore.Search(u, 200, n)
			if want := n > index; ok != want || ok && len(picks) != len(whole[index].picks) {
				t.Errorf("Search within %d states = %v, %v; the first one is %d", n, picks, ok, index)
			}
			whole.compare(t, "deep", u, 200, n)
		}
	}
	// Of 500 states, a deadlocked one is the last, or would be the next one.
	for _, before := range []int{20, 30, 40, 50} {
		for width := 18; width < 30; width++ {
			u := mustLower(t, deep(before, width))
			byRounds(u, 200).compare(t, "deep", u, 200, 500)
		}
	}
}

func TestManyThreads(t *testing.T) { // P12.1, P12.2: as many threads as there may be
	const program = "mutex a; func f() { lock a; } func main() { lock a; while 1 { go f(); } }"
	u := mustLower(t, program)
	l, all := explore.States(u, 200, 500)
	last := l[len(l)-1]
	if want := 2 + 3*31 + 2; len(l) != want || !all || last.Fault != api.FaultThreads || len(last.Threads) != api.MaxThreads {
		t.Errorf("%d states, %v, and the last one is %v; want %d", len(l), all, last, want)
	}
	byRounds(u, 200).compare(t, program, u, 200, 500)
	const other = "mutex a; mutex b; func f() { lock b; lock a; } func main() { lock a; lock b; go f(); }"
	wide := strings.Replace(other, "lock b; go f();", strings.Repeat("go f();", 31)+"lock b;", 1)
	u = mustLower(t, wide)
	byRounds(u, 200).compare(t, wide, u, 200, 500)
	u = mustLower(t, philosophers(32))
	byRounds(u, 200).compare(t, "philosophers", u, 200, 500)
	if picks, ok := explore.Search(u, 200, 500); len(picks) > 0 || ok {
		t.Errorf("Search = %v, %v, although it would need 63 steps", picks, ok)
	}
}

func TestExample(t *testing.T) { // that of the chapter
	u := mustLower(t, crossed)
	picks, ok := explore.Search(u, 200, 500)
	s, n := schedule.Run(u, picks)
	if !ok || n != len(picks) || !slices.Equal(waits.Deadlocked(u, s), []int{0, 1}) {
		t.Errorf("Search = %v, %v, which leads to %v", picks, ok, s)
	}
}
