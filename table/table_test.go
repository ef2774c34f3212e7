package table_test

import (
	"slices"
	"testing"

	"lockorder/api"
	"lockorder/parse"
	"lockorder/table"
)

const least, most = -1 << 63, 1<<63 - 1

// Elements of the mutexes of mixed.
const (
	scalar    = 0
	first     = 1 // of the array
	second    = 2
	last      = 3
	reentrant = 4
	single    = 5 // of an array with one element
	end       = 6 // the first number that is none
)

// mixed returns a scalar, an array of 3, a reentrant mutex, and an array of 1.
func mixed() []api.Mutex {
	return []api.Mutex{{Name: "a"}, {Name: "c", Size: 3}, {Name: "r", Reentrant: true}, {Name: "e", Size: 1}}
}

// session applies changes to a table of mixed, one after the other.
type session struct {
	t    *testing.T
	held []api.Hold
}

func begin(t *testing.T) *session {
	return &session{t, table.New(mixed())}
}

// lock tests that Lock succeeds, and that only this element becomes held deeper.
func (s *session) lock(element, thread int) {
	s.t.Helper()
	want := slices.Clone(s.held)
	want[element] = api.Hold{Owner: thread + 1, Depth: want[element].Depth + 1}
	if !table.Free(mixed(), s.held, element, thread) {
		s.t.Errorf("in %v, the element %d is not free for the thread %d", s.held, element, thread)
	}
	next, ok := table.Lock(mixed(), s.held, element, thread)
	if !ok || !slices.Equal(next, want) {
		s.t.Errorf("Lock(%v, %d, %d) = %v, %v; want %v", s.held, element, thread, next, ok, want)
	}
	s.held = next
}

// unlock tests that Unlock succeeds with this table.
func (s *session) unlock(element, thread int, want ...api.Hold) {
	s.t.Helper()
	next, ok := table.Unlock(mixed(), s.held, element, thread)
	if !ok || !slices.Equal(next, want) {
		s.t.Errorf("Unlock(%v, %d, %d) = %v, %v; want %v", s.held, element, thread, next, ok, want)
	}
	s.held = next
}

// noLock tests that an element is not free and that Lock fails.
func (s *session) noLock(element, thread int) {
	s.t.Helper()
	if table.Free(mixed(), s.held, element, thread) {
		s.t.Errorf("in %v, the element %d is free for the thread %d", s.held, element, thread)
	}
	if next, ok := table.Lock(mixed(), s.held, element, thread); ok || !slices.Equal(next, s.held) {
		s.t.Errorf("Lock(%v, %d, %d) = %v, %v; want no change", s.held, element, thread, next, ok)
	}
}

// noUnlock tests that Unlock fails.
func (s *session) noUnlock(element, thread int) {
	s.t.Helper()
	if next, ok := table.Unlock(mixed(), s.held, element, thread); ok || !slices.Equal(next, s.held) {
		s.t.Errorf("Unlock(%v, %d, %d) = %v, %v; want no change", s.held, element, thread, next, ok)
	}
}

// depths tests the depths of the mutexes of mixed for a thread.
func (s *session) depths(thread int, want ...int) {
	s.t.Helper()
	for m := range want {
		if n := table.Depth(mixed(), s.held, m, thread); n != want[m] {
			s.t.Errorf("in %v, the depth of the mutex %d for the thread %d is %d; want %d", s.held, m, thread, n, want[m])
		}
	}
}

func TestExample(t *testing.T) { // that of the chapter
	l := []api.Mutex{{Name: "a"}, {Name: "c", Size: 3}}
	if n, base, m := table.Elements(l), table.Base(l, 1), table.MutexOf(l, 3); n != 4 || base != 1 || m != 1 {
		t.Errorf("Elements %d, Base %d, MutexOf %d", n, base, m)
	}
}

func TestElements(t *testing.T) { // P8.1
	for i, x := range []struct {
		l    []api.Mutex
		want int
	}{
		{nil, 0}, {[]api.Mutex{}, 0}, {[]api.Mutex{{}}, 1}, {[]api.Mutex{{Reentrant: true}}, 1}, {[]api.Mutex{{Size: 1}}, 1}, {[]api.Mutex{{Size: 2}}, 2}, {[]api.Mutex{{Size: api.MaxElements}}, 64}, {[]api.Mutex{{}, {}, {}}, 3}, {[]api.Mutex{{Size: 2, Reentrant: true}, {Size: 5}}, 7}, {mixed(), 6}, {slices.Repeat([]api.Mutex{{Size: api.MaxElements}}, api.MaxMutexes), 768},
	} {
		if n := table.Elements(x.l); n != x.want {
			t.Errorf("Elements of the list %d = %d; want %d", i, n, x.want)
		}
	}
}

func TestBase(t *testing.T) { // P8.1
	for m, want := range map[int]int{0: 0, 1: 1, 2: 4, 3: 5, 4: -1, 5: -1, -1: -1, least: -1, most: -1} {
		if n := table.Base(mixed(), m); n != want {
			t.Errorf("Base(%d) = %d; want %d", m, n, want)
		}
	}
	if n := table.Base(nil, 0); n != -1 {
		t.Errorf("Base without mutexes = %d", n)
	}
}

func TestMutexOf(t *testing.T) { // P8.1
	for element, want := range map[int]int{scalar: 0, first: 1, second: 1, last: 1, reentrant: 2, single: 3, end: -1, 7: -1, -1: -1, least: -1, most: -1} {
		if m := table.MutexOf(mixed(), element); m != want {
			t.Errorf("MutexOf(%d) = %d; want %d", element, m, want)
		}
	}
	if m := table.MutexOf(nil, 0); m != -1 {
		t.Errorf("MutexOf without mutexes = %d", m)
	}
}

func TestNew(t *testing.T) { // P8.1
	for _, l := range [][]api.Mutex{nil, {}, {{}}, mixed(), slices.Repeat([]api.Mutex{{Size: api.MaxElements}}, api.MaxMutexes)} {
		if held := table.New(l); !slices.Equal(held, make([]api.Hold, len(places(l)))) {
			t.Errorf("New(%v) = %v", l, held)
		}
	}
}

func TestScalar(t *testing.T) { // P8.2: a mutex that is not reentrant is free only if nobody holds it
	s := begin(t)
	s.noUnlock(scalar, 0)
	s.lock(scalar, 0)
	s.noLock(scalar, 0)
	s.noLock(scalar, 1)
	s.noUnlock(scalar, 1)
	s.unlock(scalar, 0, make([]api.Hold, 6)...)
	s.noUnlock(scalar, 0)
	s.lock(scalar, 1)
	s.noLock(scalar, 0)
}

func TestReentrant(t *testing.T) { // P8.2: a reentrant mutex is free for the thread that holds it, as often as it likes
	s := begin(t)
	for range api.MaxDepth + 5 {
		s.lock(reentrant, 3)
		s.noLock(reentrant, 2)
		s.noLock(reentrant, 4)
		s.noUnlock(reentrant, 2)
	}
	for depth := api.MaxDepth + 4; depth > 0; depth-- {
		s.unlock(reentrant, 3, api.Hold{}, api.Hold{}, api.Hold{}, api.Hold{}, api.Hold{Owner: 4, Depth: depth}, api.Hold{})
		s.noLock(reentrant, 2)
	}
	s.unlock(reentrant, 3, make([]api.Hold, 6)...)
	s.noUnlock(reentrant, 3)
	s.lock(reentrant, 2)
	s.noLock(reentrant, 3)
}

func TestReentrantArray(t *testing.T) { // P8.2: Reentrant and Size do not exclude each other in a list
	l := []api.Mutex{{Size: 2, Reentrant: true}}
	held, _ := table.Lock(l, table.New(l), 1, 0)
	held, ok := table.Lock(l, held, 1, 0)
	if want := []api.Hold{{}, {Owner: 1, Depth: 2}}; !ok || !slices.Equal(held, want) || table.Depth(l, held, 0, 0) != 2 || !table.Valid(l, held, 1) {
		t.Errorf("%v, %v; want %v", held, ok, want)
	}
}

func TestArray(t *testing.T) { // P8.2: the elements of an array are held by themselves
	s := begin(t)
	s.lock(second, 0)
	s.noLock(second, 0)
	s.noLock(second, 1)
	s.noUnlock(first, 0)
	s.noUnlock(last, 0)
	s.lock(first, 1)
	s.lock(last, 0)
	s.lock(single, 0)
	s.noLock(single, 0)
	s.unlock(second, 0, api.Hold{}, api.Hold{Owner: 2, Depth: 1}, api.Hold{}, api.Hold{Owner: 1, Depth: 1}, api.Hold{}, api.Hold{Owner: 1, Depth: 1})
	s.lock(second, 1)
}

func TestWrongNumbers(t *testing.T) { // P8.2: no such element, or a negative thread
	empty, full := begin(t), begin(t)
	for element := range end {
		full.lock(element, 0)
	}
	for _, s := range []*session{empty, full} {
		for _, thread := range []int{0, 1, most} {
			for _, element := range []int{-1, end, end + 1, least, most} {
				s.noLock(element, thread)
				s.noUnlock(element, thread)
			}
		}
		for _, thread := range []int{-1, -2, least} {
			for element := -1; element <= end; element++ {
				s.noLock(element, thread)
				s.noUnlock(element, thread)
			}
		}
	}
	if next, ok := table.Lock(nil, nil, 0, 0); ok || len(next) != 0 {
		t.Errorf("Lock without mutexes = %v, %v", next, ok)
	}
	if next, ok := table.Unlock(nil, nil, 0, 0); ok || len(next) != 0 {
		t.Errorf("Unlock without mutexes = %v, %v", next, ok)
	}
}

func TestManyThreads(t *testing.T) { // P8.2: any number from 0 on is that of a thread
	for _, thread := range []int{0, 1, api.MaxThreads - 1, api.MaxThreads, 1 << 40, most - 1, most} {
		s := begin(t)
		s.lock(reentrant, thread)
		s.lock(reentrant, thread)
		s.noLock(reentrant, thread-1)
		s.depths(thread, 0, 0, 2, 0)
		s.depths(-1, 0, 0, 0, 0)
		s.unlock(reentrant, thread, api.Hold{}, api.Hold{}, api.Hold{}, api.Hold{}, api.Hold{Owner: thread + 1, Depth: 1}, api.Hold{})
		s.unlock(reentrant, thread, make([]api.Hold, 6)...)
	}
}

func TestDepth(t *testing.T) { // P8.3
	s := begin(t)
	for _, thread := range []int{0, 1, -1, -2, least, most} {
		s.depths(thread, 0, 0, 0, 0)
	}
	s.lock(scalar, 0)
	s.lock(first, 0)
	s.lock(second, 1)
	s.lock(last, 0)
	s.lock(reentrant, 1)
	s.lock(reentrant, 1)
	s.lock(reentrant, 1)
	s.depths(0, 1, 2, 0, 0)
	s.depths(1, 0, 1, 3, 0)
	for _, thread := range []int{2, -1, -2, least, most} {
		s.depths(thread, 0, 0, 0, 0)
	}
	for _, m := range []int{-1, 4, 5, least, most} {
		if n := table.Depth(mixed(), s.held, m, 0); n != 0 {
			t.Errorf("the depth of the mutex %d is %d", m, n)
		}
	}
	if n := table.Depth(nil, nil, 0, 0); n != 0 {
		t.Errorf("the depth without mutexes is %d", n)
	}
}

func TestWholeArray(t *testing.T) { // P8.3: all elements count, those of the mutexes beside it do not
	l := []api.Mutex{{Size: 5}, {Size: api.MaxElements}, {Size: 7}}
	held := table.New(l)
	for element := range table.Elements(l) {
		held, _ = table.Lock(l, held, element, 6)
	}
	for m, want := range []int{5, api.MaxElements, 7} {
		if n := table.Depth(l, held, m, 6); n != want {
			t.Errorf("the depth of the mutex %d is %d; want %d", m, n, want)
		}
	}
}

// expectValid tests Valid of tables in which only one element is held, and only up to its Owner.
func expectValid(t *testing.T, element int, h api.Hold, want bool) {
	t.Helper()
	held := table.New(mixed())
	held[element] = h
	for threads := -2; threads < h.Owner; threads++ {
		if table.Valid(mixed(), held, threads) {
			t.Errorf("%v is valid with %d threads", held, threads)
		}
	}
	for _, threads := range []int{max(h.Owner, 0), max(h.Owner, 0) + 1, 1 << 40, most} {
		if table.Valid(mixed(), held, threads) != want {
			t.Errorf("%v is valid with %d threads: %v", held, threads, !want)
		}
	}
}

func TestValid(t *testing.T) { // P8.4
	for element := range end {
		expectValid(t, element, api.Hold{}, true)
		for owner := 1; owner <= 40; owner++ {
			expectValid(t, element, api.Hold{Owner: owner, Depth: 1}, true)
			expectValid(t, element, api.Hold{Owner: owner}, false)
			expectValid(t, element, api.Hold{Owner: owner, Depth: -1}, false)
			for _, depth := range []int{2, 3, api.MaxDepth, api.MaxDepth + 1, most} {
				expectValid(t, element, api.Hold{Owner: owner, Depth: depth}, element == reentrant)
			}
		}
		for _, owner := range []int{0, -1, -2, least} {
			for _, depth := range []int{-1, 1, 2, least, most} {
				expectValid(t, element, api.Hold{Owner: owner, Depth: depth}, false)
			}
		}
		for _, owner := range []int{-1, -2, least} {
			expectValid(t, element, api.Hold{Owner: owner}, false)
		}
	}
}

func TestValidLength(t *testing.T) { // P8.4: one element for each element
	for n := range 20 {
		if table.Valid(mixed(), make([]api.Hold, n), 1) != (n == end) {
			t.Errorf("Valid of %d elements is %v", n, n != end)
		}
		if table.Valid(nil, make([]api.Hold, n), 1) != (n == 0) || table.Valid([]api.Mutex{}, make([]api.Hold, n), 0) != (n == 0) {
			t.Errorf("Valid of %d elements without mutexes is %v", n, n != 0)
		}
	}
}

func TestValidThreads(t *testing.T) { // P8.4: with a negative number of threads, no Owner is possible
	for _, threads := range []int{-1, least} {
		if table.Valid(mixed(), table.New(mixed()), threads) || !table.Valid(nil, nil, threads) {
			t.Errorf("Valid with %d threads", threads)
		}
	}
	if !table.Valid(mixed(), table.New(mixed()), 0) {
		t.Error("the table of no threads is not valid")
	}
}

func TestProgram(t *testing.T) { // P8.1: the mutexes of a program in their order
	p, _, errno := parse.Program([]byte("var x; rmutex r; mutex d[64]; var y; mutex a; mutex e[1]; mutex c[2]; func main() { }"))
	if errno != api.OK {
		t.Fatal(errno)
	}
	for m, want := range []int{0, 1, 65, 66, 67, -1} {
		if n := table.Base(p.Mutexes, m); n != want {
			t.Errorf("Base(%d) = %d; want %d", m, n, want)
		}
	}
	if n := table.Elements(p.Mutexes); n != 69 {
		t.Errorf("%d elements", n)
	}
}

// callAll calls all functions, for arguments for which they may return anything.
func callAll(l []api.Mutex, held []api.Hold, number, thread int) {
	table.Elements(l)
	table.Base(l, number)
	table.MutexOf(l, number)
	table.New(l)
	table.Free(l, held, number, thread)
	table.Lock(l, held, number, thread)
	table.Unlock(l, held, number, thread)
	table.Depth(l, held, number, thread)
	table.Valid(l, held, thread)
}

func TestUnspecified(t *testing.T) { // R1, R6: Sizes beyond the limits, and tables of other mutexes
	numbers := []int{least, -65, -1, 0, 1, 2, 3, 63, 64, 65, 1 << 40, most - 1, most}
	for _, size := range numbers {
		l := []api.Mutex{{Size: size}, {Size: size, Reentrant: true}, {Size: 2}}
		for _, held := range [][]api.Hold{nil, make([]api.Hold, 1), make([]api.Hold, 2), make([]api.Hold, 3), make([]api.Hold, 200), slices.Repeat([]api.Hold{{Owner: 1, Depth: 1}}, 200), {{Owner: 1, Depth: most}, {Owner: 1, Depth: least}, {Owner: least, Depth: 1}, {Owner: most}}} {
			for _, number := range numbers {
				for _, thread := range numbers {
					callAll(l, held, number, thread)
				}
			}
		}
	}
	many := slices.Repeat([]api.Mutex{{Size: most}}, 1000)
	callAll(many, nil, 999, 0)
}
