package machine_test

import (
	"testing"

	"lockorder/api"
	"lockorder/machine"
)

// sampleRun returns a run with three threads, of which thread 0 has two frames, thread 1 one frame, and thread 2 has finished.
func sampleRun(t *testing.T) *run {
	t.Helper()
	r := begin(t, "var x; var y; mutex a; rmutex r; mutex c[2]; func h() { } func f(n, mutex m) { var i = n; lock m; lock r; while i { i = 0; } } func main() { go f(1, mutex c[1]); go h(); f(2, mutex r); }")
	r.steps(0, 0, 2, 0, 1, 1, 0, 0)
	return r
}

// changed tests Valid of a state of r with these changes.
func (r *run) changed(want bool, changes ...change) {
	r.t.Helper()
	s := clone(r.s)
	for _, c := range changes {
		c(&s)
	}
	if machine.Valid(r.u, s) != want {
		r.t.Errorf("%v is valid: %v", s, !want)
	}
}

func proc(thread, n int) change {
	return func(s *api.State) { last(s, thread).Proc = n }
}

func ints(thread int, l ...int) change {
	return func(s *api.State) { last(s, thread).Ints = l }
}

func locks(thread int, l ...int) change {
	return func(s *api.State) { last(s, thread).Locks = l }
}

func TestValid(t *testing.T) { // P9.4
	r := sampleRun(t)
	if want := "{[0 0] [{0 0} {1 1} {0 0} {2 1}] [{[{2 3 [] []} {1 2 [2 2] [1]}]} {[{1 2 [1 1] [3]}]} {[]}] 0}"; text(r.s) != want {
		t.Fatalf("the state is %s; want %s", text(r.s), want)
	}
	r.changed(true)
	r.changed(true, global(0, least), global(1, most), local(0, 0, most), local(0, 1, least))
	r.changed(true, leave(0), leave(0), leave(1)) // no promise says that there is a thread that has not finished
	r.changed(true, proc(0, 2), pc(0, 0), ints(0), locks(0))
	r.changed(true, enter(2, api.Frame{}))
	r.changed(false, enter(2, api.Frame{Proc: 1}))
}

func TestValidGlobals(t *testing.T) { // P9.4: as many as the unit has
	r := sampleRun(t)
	for n := range 5 {
		r.changed(n == 2, func(s *api.State) { s.Globals = make([]int, n) })
	}
}

func TestValidFault(t *testing.T) { // P9.4: 0 to 4
	r := sampleRun(t)
	for n := -3; n < 9; n++ {
		r.changed(n >= 0 && n <= 4, fails(n))
	}
	r.changed(false, fails(least))
	r.changed(false, fails(most))
}

func TestValidTable(t *testing.T) { // P9.4: valid for the number of threads
	r := sampleRun(t)
	for owner := -1; owner < 6; owner++ {
		for depth := -1; depth < 4; depth++ {
			for element := range 4 {
				none, one := owner == 0 && depth == 0, owner > 0 && owner <= 3 && depth == 1
				deep := owner > 0 && owner <= 3 && depth > 1 && element == 1
				r.changed(none || one || deep, hold(element, owner, depth))
			}
		}
	}
	for n := range 9 {
		r.changed(n == 4, func(s *api.State) { s.Table = make([]api.Hold, n) })
	}
	r.changed(true, hold(0, 3, 1)) // by a thread that has finished
	r.changed(false, hold(0, 3, 1), func(s *api.State) { s.Threads = s.Threads[:2] })
}

func TestValidThreads(t *testing.T) { // P9.4: 1 to MaxThreads
	r := sampleRun(t)
	for n := range 70 {
		r.changed(n >= 1 && n <= 32, func(s *api.State) { s.Table, s.Threads = make([]api.Hold, 4), make([]api.Thread, n) })
	}
	for _, f := range []api.Frame{{}, {Proc: 3}} {
		r.changed(f.Proc == 0, func(s *api.State) {
			for len(s.Threads) < 31 {
				s.Threads = append(s.Threads, api.Thread{})
			}
		}, start(f))
	}
}

func TestValidFrames(t *testing.T) { // P9.4: each frame, the last one of a thread or not
	r := sampleRun(t)
	for n := -2; n < 12; n++ {
		first := func(s *api.State) { s.Threads[0].Frames[0].PC = n }
		r.changed(n >= 0 && n <= 3, first)
		r.changed(n >= 0 && n <= 6, pc(0, n))
		r.changed(n >= 0 && n <= 6, pc(1, n))
		r.changed(n == 1, proc(1, n), pc(1, 0))
		r.changed(n == 0 || n == 2, proc(1, n), pc(1, 0), ints(1), locks(1))
		r.changed(n == 0 || n == 2, func(s *api.State) { s.Threads[0].Frames[0].Proc, s.Threads[0].Frames[0].PC = n, 0 })
	}
	for _, n := range []int{least, most, 1 << 32} {
		r.changed(false, pc(1, n))
		r.changed(false, proc(1, n))
		r.changed(false, proc(1, n), ints(1), locks(1))
	}
	r.changed(false, func(s *api.State) { s.Threads[0].Frames[0].Ints = []int{0} })
	r.changed(false, func(s *api.State) { s.Threads[0].Frames[0].Locks = []int{0} })
}

func TestValidLists(t *testing.T) { // P9.4: as many Ints as the procedure has Locals, and elements as Locks
	r := sampleRun(t)
	for n := range 5 {
		for thread := range 2 {
			r.changed(n == 2, ints(thread, make([]int, n)...))
			r.changed(n == 1, locks(thread, make([]int, n)...))
		}
	}
	for n := -2; n < 8; n++ {
		for thread := range 2 {
			r.changed(n >= 0 && n <= 3, locks(thread, n))
		}
	}
	r.changed(false, locks(0, least))
	r.changed(false, locks(0, most))
}

func TestValidSecondLock(t *testing.T) { // P9.4: all Locks are elements
	r := begin(t, "mutex a; mutex c[3]; func f(mutex m, mutex l, mutex k) { } func main() { f(mutex a, mutex a, mutex c[2]); }")
	r.steps(0)
	for n := -2; n < 8; n++ {
		for i := range 3 {
			l := []int{0, 0, 3}
			l[i] = n
			r.changed(n >= 0 && n <= 3, locks(0, l...))
		}
	}
}

func TestValidOtherUnit(t *testing.T) { // P9.4: the state of one unit for another one
	groups := [][]string{ // each of programs that have the same first state
		{"func main() { }", "func main() { main(); }"},
		{"var x; func main() { }", "var y; func main() { y = 1; }"},
		{"mutex a; func main() { }", "rmutex r; func main() { }", "mutex c[1]; func main() { }"},
		{"mutex a; mutex b; func main() { }", "mutex c[2]; func main() { lock c[0]; }"},
		{"func main() { var i = 0; }", "func main() { if 1 { var i = 1; } }"},
		{"func f() { } func main() { }"},
		{"func f(n) { } func main() { var i = 1; }"},
	}
	for i, one := range groups {
		for j, two := range groups {
			for _, x := range one {
				for _, y := range two {
					// The first state of another main is that of f, if that has the same local variables.
					want := i == j || i == 5 && j == 0 || i == 6 && j == 4
					if machine.Valid(mustLower(t, x), machine.New(mustLower(t, y))) != want {
						t.Errorf("the first state of %q is valid for %q: %v", y, x, !want)
					}
				}
			}
		}
	}
}
