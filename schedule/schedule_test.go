package schedule_test

import (
	"fmt"
	"slices"
	"testing"

	"lockorder/api"
	"lockorder/lower"
	"lockorder/machine"
	"lockorder/parse"
	"lockorder/schedule"
)

const least, most = -1 << 63, 1<<63 - 1

// mustLower returns the code of a text that is a right program.
func mustLower(t *testing.T, s string) api.Unit {
	t.Helper()
	p, n, errno := parse.Program([]byte(s))
	if errno != api.OK {
		t.Fatalf("Program(%.80q) = %d, %d", s, n, errno)
	}
	u, f, n, errno := lower.Lower(p)
	if errno != api.OK {
		t.Fatalf("Lower(%.80q) = %d, %d, %d", s, f, n, errno)
	}
	return u
}

// text returns the fields of a state, the same for nil and empty lists.
func text(s api.State) string { return fmt.Sprint(s) }

// digits is a program in which each thread adds digits of its own to the end of x: main 1 to 3, then in f 4 and 5, and in g, which it starts second, 6 and 7.
const digits = "var x; func f() { x = x * 10 + 4; x = x * 10 + 5; } func g() { x = x * 10 + 6; x = x * 10 + 7; } func main() { x = 1; go f(); x = x * 10 + 2; go g(); x = x * 10 + 3; }"

// locks is a program whose second thread wants to have the mutexes of the first one in the reverse order.
const locks = "var x; mutex a; rmutex r; func f() { lock r; x = x * 10 + 1; lock a; x = x * 10 + 2; } func main() { go f(); lock a; x = x * 10 + 3; lock r; x = x * 10 + 4; }"

// runs are schedules, with the picks whose steps are possible and the values that x has at the beginning and after each pick.
var runs = []struct {
	program       string
	picks, useful []int
	x             []int
	fault         int
}{
	{digits, nil, nil, []int{0}, 0},
	{digits, []int{0, 0, 0, 0, 0}, []int{0, 0, 0, 0, 0}, []int{0, 1, 1, 12, 12, 123}, 0},
	{digits, []int{0, 0, 1, 0, 1}, []int{0, 0, 1, 0, 1}, []int{0, 1, 1, 14, 142, 1425}, 0},
	{digits, []int{0, 0, 1, 1, 0}, []int{0, 0, 1, 1, 0}, []int{0, 1, 1, 14, 145, 1452}, 0},
	{digits, []int{0, 0, 0, 0, 2, 1, 2, 0, 1}, []int{0, 0, 0, 0, 2, 1, 2, 0, 1}, []int{0, 1, 1, 12, 12, 126, 1264, 12647, 126473, 1264735}, 0},
	// A thread that does not exist: never, not yet, and one after all that there may be.
	{digits, []int{-1, least, most, 32, 31, 1}, nil, []int{0, 0, 0, 0, 0, 0, 0}, 0},
	{digits, []int{1, 0, 1, 0, 1, 2, -1, 1 << 32}, []int{0, 0, 1}, []int{0, 0, 1, 1, 1, 14, 14, 14, 14}, 0},
	// A thread that has finished: the return is a step, too.
	{digits, []int{0, 0, 1, 1, 1, 1, 1, 0}, []int{0, 0, 1, 1, 1, 0}, []int{0, 1, 1, 14, 145, 145, 145, 145, 1452}, 0},
	{"var x; func main() { }", []int{0, 0, 0}, []int{0}, []int{0, 0, 0, 0}, 0},
	// A thread that waits, until another one has unlocked the mutex or for ever.
	{locks, []int{0, 1, 1, 0, 0, 1, 0, 1}, []int{0, 1, 1, 0, 0}, []int{0, 0, 0, 1, 1, 13, 13, 13, 13}, 0},
	{locks, []int{0, 1, 1, 1, 0, 1, 0}, []int{0, 1, 1, 1, 1}, []int{0, 0, 0, 1, 1, 1, 12, 12}, 0},
	{"var x; mutex a; func f() { lock a; x = x + 1; unlock a; } func main() { go f(); lock a; x = x + 2; unlock a; }", []int{0, 0, 1, 0, 1, 0, 1, 1, 1, 1}, []int{0, 0, 0, 0, 1, 1, 1, 1}, []int{0, 0, 0, 0, 2, 2, 2, 2, 3, 3, 3}, 0},
	{"var x; mutex a; func main() { lock a; lock a; }", []int{0, 0, 0}, []int{0}, []int{0, 0, 0, 0}, 0},
	// A step with a fault is possible, and no step after it.
	{"var x = 5; func f() { x = 7; } func main() { go f(); x = x / 0; }", []int{0, 0, 1, 0}, []int{0, 0}, []int{5, 5, 5, 5, 5}, api.FaultZero},
	{"var x = 5; func f() { x = 7; } func main() { go f(); x = x / 0; }", []int{0, 1, 0, 1, 0}, []int{0, 1, 0}, []int{5, 5, 7, 7, 7, 7}, api.FaultZero},
	{"var x = 2; mutex c[2]; func main() { lock c[x]; }", []int{0, 0}, []int{0}, []int{2, 2, 2}, api.FaultIndex},
	{"var x = 2; mutex c[2]; func main() { unlock c[1]; }", []int{1, 0, 0}, []int{0}, []int{2, 2, 2, 2}, api.FaultUnlock},
}

func TestRun(t *testing.T) { // P10.1
	for i, r := range runs {
		u := mustLower(t, r.program)
		s, n := schedule.Run(u, r.picks)
		if n != len(r.useful) || s.Globals[0] != r.x[len(r.picks)] || s.Fault != r.fault {
			t.Errorf("the run %d has %d steps to %v; want %d steps, the value %d and the fault %d", i, n, s, len(r.useful), r.x[len(r.picks)], r.fault)
		}
	}
}

func TestRunState(t *testing.T) { // P10.1: the whole state, and that at the beginning for no picks
	u := mustLower(t, "var x; mutex a; mutex c[2]; func f(n, mutex m) { lock m; x = n; } func main() { var i = 6; go f(i + 1, mutex c[1]); lock a; f(8, mutex c[0]); }")
	for _, r := range []struct {
		picks []int
		n     int
		want  string
	}{
		{nil, 0, "{[0] [{0 0} {0 0} {0 0}] [{[{1 0 [0] []}]}] 0}"},
		{[]int{1, 5, -1}, 0, "{[0] [{0 0} {0 0} {0 0}] [{[{1 0 [0] []}]}] 0}"},
		{[]int{0, 0}, 2, "{[0] [{0 0} {0 0} {0 0}] [{[{1 2 [6] []}]} {[{0 0 [7] [2]}]}] 0}"},
		{[]int{0, 0, 1, 0, 0, 0}, 6, "{[0] [{1 1} {1 1} {2 1}] [{[{1 4 [6] []} {0 1 [8] [1]}]} {[{0 1 [7] [2]}]}] 0}"},
		{[]int{0, 0, 0, 0, 0, 1, 2, 1, 1, 1}, 8, "{[7] [{1 1} {1 1} {2 1}] [{[{1 4 [6] []} {0 1 [8] [1]}]} {[]}] 0}"},
	} {
		if s, n := schedule.Run(u, r.picks); text(s) != r.want || n != r.n || !machine.Valid(u, s) {
			t.Errorf("Run of %v = %v, %d; want %s, %d", r.picks, s, n, r.want, r.n)
		}
	}
}

func TestTrace(t *testing.T) { // P10.1: one state more than picks, also for steps that are not possible
	for i, r := range runs {
		u := mustLower(t, r.program)
		states := schedule.Trace(u, r.picks)
		var x []int
		for _, s := range states {
			x = append(x, s.Globals[0])
		}
		if !slices.Equal(x, r.x) {
			t.Fatalf("in the states of the run %d, x is %v; want %v", i, x, r.x)
		}
		if text(states[0]) != text(machine.New(u)) {
			t.Errorf("the run %d begins with %v", i, states[0])
		}
		for n := range states {
			if s, _ := schedule.Run(u, r.picks[:n]); text(states[n]) != text(s) {
				t.Errorf("the state %d of the run %d is %v; want %v", n, i, states[n], s)
			}
		}
	}
}

func TestUseful(t *testing.T) { // P10.1
	for i, r := range runs {
		if l := schedule.Useful(mustLower(t, r.program), r.picks); !slices.Equal(l, r.useful) {
			t.Errorf("the picks of the run %d whose steps are possible are %v; want %v", i, l, r.useful)
		}
	}
}

func TestExample(t *testing.T) { // that of the chapter
	u := mustLower(t, digits)
	picks := []int{0, 0, 1, 0, 1}
	want, _ := schedule.Run(u, picks)
	for at := range len(picks) + 1 {
		for _, thread := range []int{-1, 3, 31, 32, 33, least, most} {
			more := slices.Insert(slices.Clone(picks), at, thread)
			s, n := schedule.Run(u, more)
			states := schedule.Trace(u, more)
			if text(s) != text(want) || n != len(picks) || !slices.Equal(schedule.Useful(u, more), picks) || text(states[at]) != text(states[at+1]) {
				t.Errorf("Run of %v = %v, %d", more, s, n)
			}
		}
	}
}

func TestFair(t *testing.T) { // P10.2
	for i, r := range []struct {
		program string
		rounds  int
		picks   []int
		x       int
	}{
		{digits, 0, nil, 0},
		{digits, 1, []int{0}, 1},
		// The thread that starts in a round has its first step in the next one.
		{digits, 2, []int{0, 0}, 1},
		{digits, 3, []int{0, 0, 0, 1}, 124},
		{digits, 4, []int{0, 0, 0, 1, 0, 1}, 1245},
		{digits, 5, []int{0, 0, 0, 1, 0, 1, 0, 1, 2}, 124536},
		{digits, 6, []int{0, 0, 0, 1, 0, 1, 0, 1, 2, 0, 2}, 1245367},
		{digits, 7, []int{0, 0, 0, 1, 0, 1, 0, 1, 2, 0, 2, 2}, 1245367},
		{digits, 100, []int{0, 0, 0, 1, 0, 1, 0, 1, 2, 0, 2, 2}, 1245367},
		// So has one that is started by a thread other than the first, and one that starts after the end of main.
		{"var x; func g() { x = x * 10 + 3; } func f() { go g(); x = x * 10 + 2; } func main() { go f(); }", 2, []int{0, 0, 1}, 0},
		{"var x; func g() { x = x * 10 + 3; } func f() { go g(); x = x * 10 + 2; } func main() { go f(); }", 3, []int{0, 0, 1, 1, 2}, 23},
		{"var x; func g() { x = x * 10 + 3; } func f() { x = 1; x = 2; go g(); x = x * 10 + 2; } func main() { go f(); }", 5, []int{0, 0, 1, 1, 1, 1, 2}, 223},
		// The threads that wait are left out, and all of them after a fault.
		{locks, 2, []int{0, 0, 1}, 0},
		{locks, 3, []int{0, 0, 1, 0, 1}, 31},
		{locks, 4, []int{0, 0, 1, 0, 1}, 31},
		{locks, 1000, []int{0, 0, 1, 0, 1}, 31},
		{"var x; mutex a; func f() { lock a; x = x * 10 + 1; unlock a; } func main() { go f(); lock a; x = x * 10 + 2; unlock a; }", 9, []int{0, 0, 0, 0, 1, 0, 1, 1, 1}, 21},
		{"var x; func f() { x = 1; } func main() { go f(); x = x / 0; }", 9, []int{0, 0}, 0},
		{"var x; func f() { x = x / 0; } func main() { go f(); x = 1; x = 2; }", 9, []int{0, 0, 1}, 1},
		// Calls and returns are steps, too.
		{"var x; func f() { x = x + 1; } func main() { f(); f(); }", 6, []int{0, 0, 0, 0, 0, 0}, 2},
		{"var x; func f() { x = x + 1; } func main() { f(); f(); }", 9, []int{0, 0, 0, 0, 0, 0, 0}, 2},
	} {
		u := mustLower(t, r.program)
		s, picks := schedule.Fair(u, r.rounds)
		if !slices.Equal(picks, r.picks) || s.Globals[0] != r.x {
			t.Errorf("Fair %d = %v, %v; want %v, %d", i, s, picks, r.picks, r.x)
		}
		if want, n := schedule.Run(u, picks); text(s) != text(want) || n != len(picks) {
			t.Errorf("Fair %d leads to %v; want %v", i, s, want)
		}
	}
}

func TestFairRounds(t *testing.T) { // P10.2: at most 1000, and a negative number counts as 0
	u := mustLower(t, "var x; func f() { while 1 { x = x + 1; } } func main() { go f(); while 1 { x = x + 1; } }")
	first := machine.New(u)
	for _, n := range []int{least, -1 << 32, -1000, -2, -1, 0} {
		if s, picks := schedule.Fair(u, n); len(picks) != 0 || text(s) != text(first) {
			t.Errorf("Fair in %d rounds = %v, %v", n, s, picks)
		}
	}
	for _, n := range []int{1, 2, 3, 998, 999, 1000, 1001, 1002, 2000, 1 << 32, most} {
		rounds, want := min(n, 1000), []int{0}
		for range rounds - 1 {
			want = append(want, 0, 1)
		}
		s, picks := schedule.Fair(u, n)
		// Every third step of both threads is that of their statement.
		if !slices.Equal(picks, want) || s.Globals[0] != 2*(rounds/3) {
			t.Errorf("Fair in %d rounds = %v, %v", n, s, picks)
		}
	}
}

func TestFairThreads(t *testing.T) { // P10.2: all threads that there may be, and the fault of one more
	u := mustLower(t, "var x; func f() { while 1 { x = x + 1; } } func main() { while 1 { go f(); } }")
	// Every third round, main starts a thread, after which the number of threads is one more from the next round on.
	var want []int
	threads := 1
	for round := 1; threads <= api.MaxThreads; round++ {
		for thread := range threads {
			if want = append(want, thread); round%3 == 2 && threads == api.MaxThreads {
				break
			}
		}
		if round%3 == 2 {
			threads++
		}
	}
	s, picks := schedule.Fair(u, 1000)
	if !slices.Equal(picks, want) || len(s.Threads) != api.MaxThreads || s.Fault != api.FaultThreads {
		t.Errorf("Fair = %v, %v; want the picks %v", s, picks, want)
	}
}
