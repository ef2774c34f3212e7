package schedule_test

import (
	"fmt"
	"math/rand"
	"reflect"
	"slices"
	"strings"
	"testing"

	"lockorder/api"
	"lockorder/lower"
	"lockorder/machine"
	"lockorder/parse"
	"lockorder/schedule"
)

func TestAllSchedules(t *testing.T) { // P10.1, P10.3: all schedules of up to five picks, and some numbers of rounds
	count := 0
	var walk func(c course, n int)
	walk = func(c course, n int) {
		count++
		compare(t, c)
		for thread := -1; n > 0 && thread < 4; thread++ {
			next, _ := c.then(thread)
			walk(next, n-1)
		}
	}
	for _, s := range []string{
		digits, locks,
		"var x; mutex a; func f() { lock a; unlock a; } func main() { go f(); go f(); lock a; }",
		"var x; func f(n) { x = 1 / n; } func main() { go f(1); go f(0); go f(2); }",
		"rmutex r; func f() { lock r; } func main() { go f(); lock r; unlock r; unlock r; }",
		"func main() { go main(); main(); }",
	} {
		u := mustLower(t, s)
		walk(newCourse(u), 5)
		for n := -1; n < 20; n++ {
			compareFair(t, u, n)
		}
	}
	if want := 6 * (1 + 5 + 25 + 125 + 625 + 3125); count != want {
		t.Errorf("%d schedules; want %d", count, want)
	}
}

func TestRandomSchedules(t *testing.T) { // P10.1 to P10.3
	r := rand.New(rand.NewSource(1))
	picked, possible, faults := 0, 0, 0
	for range 500 {
		u := mustLower(t, randomProgram(r))
		one, two := randomPicks(r, 80), randomPicks(r, 80)
		c := newCourse(u)
		for _, thread := range slices.Concat(one, two) {
			c, _ = c.then(thread)
		}
		compare(t, c)
		compareParts(t, u, one, two)
		compareParts(t, u, nil, one)
		compareParts(t, u, c.useful, two)
		picked, possible = picked+len(c.picks), possible+len(c.useful)
		if c.last().Fault != 0 {
			faults++
		}
	}
	if possible < 5000 || picked-possible < 10000 || faults < 30 {
		t.Errorf("%d picks, %d of them possible, and %d faults", picked, possible, faults)
	}
}

func TestRandomFair(t *testing.T) { // P10.2
	r := rand.New(rand.NewSource(2))
	threads, faults, waits := map[int]int{}, 0, 0
	for range 300 {
		u := mustLower(t, randomProgram(r))
		compareFair(t, u, r.Intn(60)-2)
		s, picks := schedule.Fair(u, 40)
		threads[len(s.Threads)]++
		if s.Fault != 0 {
			faults++
		} else if len(picks) < 40*len(s.Threads)/2 {
			waits++
		}
	}
	if len(threads) < 10 || threads[api.MaxThreads] < 3 || faults < 30 || waits < 30 {
		t.Errorf("%v threads, %d faults, %d runs in which threads finish or wait", threads, faults, waits)
	}
	for _, n := range []int{1000, 1001} {
		compareFair(t, mustLower(t, "var x; mutex a; func f(n) { while 1 { lock a; x = x * 3 + n; unlock a; } } func main() { go f(1); go f(2); }"), n)
	}
}

func TestLongSchedule(t *testing.T) { // P10.1: many picks, and frames upon frames
	u := mustLower(t, "var x; func main() { while x < 100000 { x = x + 1; } }")
	picks := make([]int, 400000)
	if s, n := schedule.Run(u, picks); n != 300002 || s.Globals[0] != 100000 || len(s.Threads[0].Frames) != 0 {
		t.Errorf("Run = %v, %d", s, n)
	}
	if l := schedule.Useful(u, picks); len(l) != 300002 {
		t.Errorf("%d steps are possible", len(l))
	}
	u = mustLower(t, "func f(n) { f(n + 1); } func main() { f(1); }")
	s, picks := schedule.Fair(u, 1000)
	if frames := s.Threads[0].Frames; len(picks) != 1000 || len(frames) != 1001 || frames[1000].Ints[0] != 1000 {
		t.Errorf("Fair leads to %d frames with %d steps", len(s.Threads[0].Frames), len(picks))
	}
}

// visit calls see for every item of every slice in v, as far as the capacities reach, and clears what it has seen if clear is true.
func visit(v reflect.Value, see func(item reflect.Value), clear bool) {
	switch v.Kind() {
	case reflect.Struct:
		for i := range v.NumField() {
			visit(v.Field(i), see, clear)
		}
	case reflect.Slice:
		all := v.Slice(0, v.Cap())
		for i := range all.Len() {
			see(all.Index(i))
			visit(all.Index(i), see, clear)
			if clear {
				all.Index(i).SetZero()
			}
		}
	}
}

// results are all that the functions return for a unit and a schedule.
type results struct {
	Last   api.State
	States []api.State
	Useful []int
	Fair   api.State
	Picks  []int
}

// callAll calls all functions.
func callAll(u api.Unit, picks []int, rounds int) results {
	var r results
	r.Last, _ = schedule.Run(u, picks)
	r.States = schedule.Trace(u, picks)
	r.Useful = schedule.Useful(u, picks)
	r.Fair, r.Picks = schedule.Fair(u, rounds)
	return r
}

func TestMemory(t *testing.T) { // R2, R3: nothing is changed, kept or shared, and the results are the same again
	r := rand.New(rand.NewSource(3))
	for range 200 {
		source := randomProgram(r)
		u, original := mustLower(t, source), mustLower(t, source)
		picks := append(randomPicks(r, 40), 7, 7)
		whole := slices.Clone(picks)
		picks = picks[:len(picks)-2]
		first := callAll(u, picks, 10)
		want := fmt.Sprint(first)
		second := callAll(u, picks, 10)
		addresses := map[uintptr]bool{}
		argument := func(item reflect.Value) { addresses[item.Addr().Pointer()] = true }
		result := func(item reflect.Value) {
			if item.Type().Size() > 0 && addresses[item.Addr().Pointer()] {
				t.Fatalf("a result for %v of %q shares memory", picks, source)
			}
			addresses[item.Addr().Pointer()] = true
		}
		visit(reflect.ValueOf(&u).Elem(), argument, false)
		visit(reflect.ValueOf(&picks).Elem(), argument, false)
		visit(reflect.ValueOf(&first).Elem(), result, true)
		if fmt.Sprint(second) != want {
			t.Fatalf("the results for %v of %q are %v; want %s", picks, source, second, want)
		}
		visit(reflect.ValueOf(&second).Elem(), result, true)
		if fmt.Sprint(callAll(u, picks, 10)) != want || !reflect.DeepEqual(u, original) || !slices.Equal(picks[:cap(picks)][:len(whole)], whole) {
			t.Fatalf("the arguments have become %v, %v", u, picks)
		}
	}
}

func TestEmpty(t *testing.T) { // R5: nil and empty schedules
	u := mustLower(t, digits)
	want := text(machine.New(u))
	for _, picks := range [][]int{nil, {}} {
		s, n := schedule.Run(u, picks)
		states := schedule.Trace(u, picks)
		if text(s) != want || n != 0 || len(states) != 1 || text(states[0]) != want || len(schedule.Useful(u, picks)) != 0 {
			t.Errorf("Run = %v, %d, and Trace %v", s, n, states)
		}
	}
}

func TestUnspecified(t *testing.T) { // R1, R6: units that are no code of a program
	numbers := []int{least, -2, -1, 0, 1, 2, 40, 1 << 40, most}
	expressions := []api.Expr{{}, {Op: api.OpLocal, Num: -1}, {Op: api.OpGlobal, Num: most}, {Op: api.OpDivide}, {Op: 99, Args: make([]api.Expr, 3)}}
	for _, n := range numbers {
		for op := -1; op <= 9; op++ {
			var code []api.Instr
			for _, target := range numbers {
				place := api.Place{Param: target%2 == 0, Index: target, At: expressions}
				code = append(code, api.Instr{Op: op, Target: target, Global: n > 0, Expr: expressions[len(code)%5], Ints: expressions[:len(code)%3], Places: []api.Place{place}[:len(code)%2], Place: place})
			}
			procs := []api.Proc{{Ints: n, Locks: n, Locals: min(n, 40), Code: code}, {Locals: n}}
			for _, u := range []api.Unit{{}, {Main: n}, {Procs: procs, Main: n}, {Procs: procs, Mutexes: []api.Mutex{{Size: n}, {Reentrant: true}}, Globals: []int{1}}, {Procs: procs[:1]}} {
				callAll(u, numbers, n)
				callAll(u, []int{0, 0, 1, 0, 0, 2, 1}, 3)
			}
		}
	}
}

func FuzzRun(f *testing.F) { // P10.1 to P10.3
	f.Add(digits, []byte{1, 1, 2, 1, 1, 3, 0, 3, 2}, 3)
	f.Add("mutex a; rmutex r; func f(mutex m) { lock m; lock a; } func main() { go f(mutex r); lock a; go main(); lock r; }", []byte("\x01\x01\x02\x01\x01\x03"), 9)
	f.Fuzz(func(t *testing.T, src string, bytes []byte, rounds int) {
		if strings.Count(src, ";") > 300 {
			return
		}
		p, _, errno := parse.Program([]byte(src))
		if errno != api.OK {
			return
		}
		u, _, _, errno := lower.Lower(p)
		if errno != api.OK {
			return
		}
		c := newCourse(u)
		for _, b := range bytes[:min(len(bytes), 100)] {
			c, _ = c.then(int(b) - 1)
		}
		compare(t, c)
		compareParts(t, u, c.picks[:len(c.picks)/2], c.picks[len(c.picks)/2:])
		compareFair(t, u, rounds%50)
	})
}
