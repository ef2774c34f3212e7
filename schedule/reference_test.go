package schedule_test

import (
	"fmt"
	"math/rand"
	"slices"
	"strings"
	"testing"

	"lockorder/api"
	"lockorder/machine"
	"lockorder/schedule"
)

// course is what P10.1 says about a schedule: the states, and the picks whose steps were possible.
type course struct {
	unit          api.Unit
	picks, useful []int
	states        []api.State
}

func newCourse(u api.Unit) course {
	return course{unit: u, states: []api.State{machine.New(u)}}
}

func (c course) last() api.State { return c.states[len(c.states)-1] }

// then returns the course with one more pick, and whether its step is possible.
func (c course) then(thread int) (course, bool) {
	next, ok := machine.Step(c.unit, c.last(), thread)
	if !ok {
		next = c.last()
	} else {
		c.useful = append(slices.Clip(c.useful), thread)
	}
	c.picks, c.states = append(slices.Clip(c.picks), thread), append(slices.Clip(c.states), next)
	return c, ok
}

// fair returns the course of P10.2, in which it carries out each thread that was started in a round before.
func fair(u api.Unit, rounds int) course {
	c := newCourse(u)
	started := map[int]int{} // the round in which a thread is started
	for round := 1; round <= rounds && round <= 1000; round++ {
		for thread := 0; thread < api.MaxThreads; thread++ {
			if thread == 0 || started[thread] > 0 && started[thread] < round {
				c, _ = c.then(thread)
			}
			if threads := len(c.last().Threads); threads > 1 && started[threads-1] == 0 {
				started[threads-1] = round
			}
		}
	}
	return c
}

// compare tests Run, Trace and Useful of a schedule, and the first part of P10.3.
func compare(t *testing.T, c course) {
	t.Helper()
	s, n := schedule.Run(c.unit, c.picks)
	states, useful := schedule.Trace(c.unit, c.picks), schedule.Useful(c.unit, c.picks)
	if text(s) != text(c.last()) || n != len(c.useful) || !slices.Equal(useful, c.useful) {
		t.Fatalf("Run of %v = %v, %d, and Useful %v; want %v, %v", c.picks, s, n, useful, c.last(), c.useful)
	}
	if fmt.Sprint(states) != fmt.Sprint(c.states) {
		t.Fatalf("Trace of %v = %v; want %v", c.picks, states, c.states)
	}
	again, possible := schedule.Run(c.unit, useful)
	if text(again) != text(s) || possible != len(useful) || !slices.Equal(schedule.Useful(c.unit, useful), useful) {
		t.Fatalf("Run of %v = %v, %d; want %v", useful, again, possible, s)
	}
}

// compareFair tests Fair.
func compareFair(t *testing.T, u api.Unit, rounds int) {
	t.Helper()
	s, picks := schedule.Fair(u, rounds)
	if want := fair(u, rounds); text(s) != text(want.last()) || !slices.Equal(picks, want.useful) {
		t.Fatalf("Fair in %d rounds = %v, %v; want %v, %v", rounds, s, picks, want.last(), want.useful)
	}
	if again, n := schedule.Run(u, picks); text(again) != text(s) || n != len(picks) {
		t.Fatalf("Run of %v = %v, %d; want %v", picks, again, n, s)
	}
}

// compareParts tests the second part of P10.3: two schedules, one after the other.
func compareParts(t *testing.T, u api.Unit, one, two []int) {
	t.Helper()
	whole := slices.Concat(one, two)
	s, first := schedule.Run(u, one)
	second := 0
	for _, thread := range two {
		next, ok := machine.Step(u, s, thread)
		if ok {
			s = next
			second++
		}
	}
	if both, n := schedule.Run(u, whole); text(both) != text(s) || n != first+second {
		t.Fatalf("Run of %v and %v = %v, %d; want %v, %d", one, two, both, n, s, first+second)
	}
}

// statements are those of which randomProgram makes functions. Some may wait, start threads or have faults.
var statements = []string{
	"x = x + 1;", "y = x - y;", "x = 2;", "if x > y { x = x - 1; }", "while x > 2 { x = x - 2; }", "return;",
	"lock a; x = x + y; unlock a;", "lock r; lock r; y = 1; unlock r; unlock r;", "lock c[x * x % 3]; lock a; unlock a;",
	"lock a;", "lock r;", "lock c[1]; x = y; unlock c[1];", "if x > 1 { unlock r; }", "x = 1 / y;", "lock c[y];",
	"f(x, mutex c[1]);", "f(y - 1, mutex r);", "g();", "go g();", "go f(2, mutex a);", "go f(x, mutex c[0]);", "go main();",
}

// randomProgram makes the text of a program by chance.
func randomProgram(r *rand.Rand) string {
	block := func(more ...string) string {
		s := "{ "
		for range r.Intn(6) {
			s += statements[r.Intn(len(statements))] + " "
		}
		return s + strings.Join(more, " ") + " }"
	}
	functions := []string{
		"func f(n, mutex m) " + block("lock m; x = n; unlock m;"),
		"func g() " + block(),
		"func main() " + block("go g();", "go f(1, mutex c[2]);", statements[r.Intn(len(statements))]),
	}
	if r.Intn(8) == 0 {
		functions[2] = "func main() { while 1 { go f(3, mutex a); y = y + 1; } }"
	}
	r.Shuffle(len(functions), func(i, j int) { functions[i], functions[j] = functions[j], functions[i] })
	return "var x; var y = 1; mutex a; rmutex r; mutex c[3]; " + strings.Join(functions, " ")
}

// randomPicks makes a schedule of mostly threads that there may be.
func randomPicks(r *rand.Rand, n int) []int {
	var picks []int
	for range r.Intn(n + 1) {
		picks = append(picks, r.Intn(3+r.Intn(3))-r.Intn(8)/7)
	}
	return picks
}
