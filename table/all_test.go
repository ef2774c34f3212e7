package table_test

import (
	"math/rand"
	"slices"
	"testing"

	"lockorder/api"
	"lockorder/table"
)

// compareNumbers tests Elements, Base, MutexOf and New against the reference.
func compareNumbers(t *testing.T, l []api.Mutex) {
	t.Helper()
	all := places(l)
	if table.Elements(l) != len(all) || !slices.Equal(table.New(l), history{}.table(l)) {
		t.Fatalf("Elements(%v) = %d; want %d", l, table.Elements(l), len(all))
	}
	for m := -2; m < len(l)+2; m++ {
		if base := table.Base(l, m); base != slices.Index(all, place{mutex: m}) {
			t.Fatalf("Base(%v, %d) = %d", l, m, base)
		}
	}
	for element := -2; element < len(all)+2; element++ {
		want := -1
		if p, ok := at(l, element, 0); ok {
			want = p.mutex
		}
		if m := table.MutexOf(l, element); m != want {
			t.Fatalf("MutexOf(%v, %d) = %d; want %d", l, element, m, want)
		}
	}
}

// compareDepths tests Depth and Valid of a table against the reference.
func compareDepths(t *testing.T, l []api.Mutex, held []api.Hold, h history, threads int) {
	t.Helper()
	highest := 0
	for _, x := range held {
		highest = max(highest, x.Owner)
	}
	for thread := -1; thread <= threads; thread++ {
		for m := -1; m <= len(l); m++ {
			if n := table.Depth(l, held, m, thread); n != h.depth(m, thread) {
				t.Fatalf("Depth(%v, %v, %d, %d) = %d; want %d", l, held, m, thread, n, h.depth(m, thread))
			}
		}
		if table.Valid(l, held, thread) != (thread >= highest || len(held) == 0) {
			t.Fatalf("Valid(%v, %v, %d)", l, held, thread)
		}
	}
}

// step tests Free, Lock or Unlock against the reference, which it changes, and returns the table of Lock or Unlock.
func step(t *testing.T, l []api.Mutex, held []api.Hold, h history, element, thread int, unlock bool) []api.Hold {
	t.Helper()
	if table.Free(l, held, element, thread) != h.free(l, element, thread) {
		t.Fatalf("Free(%v, %v, %d, %d)", l, held, element, thread)
	}
	change, want := table.Lock, h.lock
	if unlock {
		change, want = table.Unlock, h.unlock
	}
	next, ok := change(l, held, element, thread)
	if ok != want(l, element, thread) || !slices.Equal(next, h.table(l)) {
		t.Fatalf("after a step of the thread %d at the element %d (unlock: %v), %v is %v, %v; want %v", thread, element, unlock, held, next, ok, h.table(l))
	}
	return next
}

// smallLists returns all lists of up to n mutexes with Sizes from 0 to 2.
func smallLists(n int) [][]api.Mutex {
	all := [][]api.Mutex{nil}
	for from := 0; n > 0; n-- {
		to := len(all)
		for ; from < to; from++ {
			for size := range 3 {
				for _, is := range []bool{false, true} {
					all = append(all, append(slices.Clone(all[from]), api.Mutex{Size: size, Reentrant: is}))
				}
			}
		}
	}
	return all
}

func TestAllSmallLists(t *testing.T) { // P8.1
	for _, l := range smallLists(4) {
		compareNumbers(t, l)
	}
}

func TestAllSmallRuns(t *testing.T) { // P8.2, P8.3: all sequences of up to four steps of two threads, with wrong numbers too
	var walk func(l []api.Mutex, held []api.Hold, h history, n int)
	walk = func(l []api.Mutex, held []api.Hold, h history, n int) {
		compareDepths(t, l, held, h, 2)
		for element := -1; n > 0 && element <= len(held); element++ {
			for thread := -1; thread < 2; thread++ {
				for _, unlock := range []bool{false, true} {
					other := h.copied()
					next := step(t, l, held, other, element, thread, unlock)
					if !slices.Equal(next, held) {
						walk(l, next, other, n-1)
					}
				}
			}
		}
	}
	for _, l := range smallLists(2) {
		walk(l, table.New(l), history{}, 4)
	}
}

func TestRandomRuns(t *testing.T) { // P8.1 to P8.4
	r := rand.New(rand.NewSource(1))
	changes, steps := 0, 0
	for range 300 {
		l := mutexesByChance(r)
		compareNumbers(t, l)
		held, h := table.New(l), history{}
		threads := 1 + r.Intn(api.MaxThreads)
		elements := 1 + r.Intn(len(held)+2)
		for range 100 {
			before := held
			held = step(t, l, held, h, r.Intn(elements)-r.Intn(2), r.Intn(threads)-r.Intn(2), r.Intn(3) == 0)
			steps++
			if !slices.Equal(before, held) {
				changes++
			}
		}
		compareDepths(t, l, held, h, threads)
	}
	if changes < steps/10 || changes > steps*9/10 {
		t.Errorf("%d of %d steps change the table", changes, steps)
	}
}

func TestAllSmallTables(t *testing.T) { // P8.4
	var holds []api.Hold
	for owner := -1; owner <= 3; owner++ {
		for depth := -1; depth <= 3; depth++ {
			holds = append(holds, api.Hold{Owner: owner, Depth: depth})
		}
	}
	tables := [][]api.Hold{nil}
	for from := range 1 + len(holds) + len(holds)*len(holds) {
		for _, x := range holds {
			tables = append(tables, append(slices.Clone(tables[from]), x))
		}
	}
	right := 0
	for _, l := range smallLists(2) {
		for _, held := range tables {
			for threads := -1; threads <= 3; threads++ {
				want := valid(l, held, threads, 3)
				if table.Valid(l, held, threads) != want {
					t.Fatalf("Valid(%v, %v, %d) is %v", l, held, threads, !want)
				}
				if want {
					right++
				}
			}
		}
	}
	if right < 1000 {
		t.Errorf("only %d tables are valid", right)
	}
}

// heldByOthers returns what other threads than this one hold.
func heldByOthers(held []api.Hold, thread int) map[int]api.Hold {
	others := map[int]api.Hold{}
	for element, x := range held {
		if x.Owner != 0 && x.Owner != thread+1 {
			others[element] = x
		}
	}
	return others
}

func TestLockAndUnlock(t *testing.T) { // P8.5
	r := rand.New(rand.NewSource(2))
	locks := 0
	for range 200 {
		l := append(mutexesByChance(r), api.Mutex{Size: 4})
		held := table.New(l)
		for range 100 {
			element, thread := r.Intn(len(held)), r.Intn(4)
			next, ok := table.Lock(l, held, element, thread)
			sameForOthers(t, held, next, thread)
			if ok {
				locks++
				back, is := table.Unlock(l, next, element, thread)
				if !is || !slices.Equal(back, held) {
					t.Fatalf("Lock and Unlock of %d by %d make %v of %v", element, thread, back, held)
				}
			}
			if r.Intn(3) == 0 {
				next, _ = table.Unlock(l, held, element, thread)
				sameForOthers(t, held, next, thread)
			}
			held = next
		}
	}
	if locks < 2000 {
		t.Errorf("only %d locks", locks)
	}
}

// sameForOthers tests that a step of a thread has not changed what other threads hold.
func sameForOthers(t *testing.T, before, after []api.Hold, thread int) {
	t.Helper()
	was, is := heldByOthers(before, thread), heldByOthers(after, thread)
	if len(was) != len(is) {
		t.Fatalf("a step of the thread %d makes %v of %v", thread, after, before)
	}
	for element, x := range was {
		if is[element] != x {
			t.Fatalf("a step of the thread %d makes %v of %v", thread, after, before)
		}
	}
}

// fill sets the elements of a table to what is in none, up to its capacity.
func fill(held []api.Hold) {
	for i := range held[:cap(held)] {
		held[:cap(held)][i] = api.Hold{Owner: -7, Depth: -7}
	}
}

func TestMemory(t *testing.T) { // R2, R3: nothing is changed or kept, and no table shares memory with another one
	r := rand.New(rand.NewSource(3))
	for range 2000 {
		l := mutexesByChance(r)
		behind := append(slices.Clone(l), api.Mutex{Name: "z", Size: 3})
		held := make([]api.Hold, table.Elements(l), table.Elements(l)+5)
		fill(held)
		for i := range held {
			held[i] = api.Hold{}
			if r.Intn(2) == 0 {
				held[i] = api.Hold{Owner: 1 + r.Intn(2), Depth: 1}
			}
		}
		whole, listed := slices.Clone(held[:cap(held)]), slices.Clone(behind)
		element, thread := r.Intn(len(held)+2)-1, r.Intn(4)-1
		var results [][]api.Hold
		for range 2 {
			locked, _ := table.Lock(behind[:len(l)], held, element, thread)
			unlocked, _ := table.Unlock(behind[:len(l)], held, element, thread)
			results = append(results, locked, unlocked, table.New(behind[:len(l)]))
		}
		callAll(behind[:len(l)], held, element, thread)
		for i := range 3 {
			if !slices.Equal(results[i], results[i+3]) {
				t.Fatalf("%v, and then %v", results[i], results[i+3])
			}
		}
		var wanted [][]api.Hold
		for _, result := range results {
			wanted = append(wanted, slices.Clone(result))
		}
		for i, result := range results {
			if !slices.Equal(result, wanted[i]) {
				t.Fatalf("%v has become %v", wanted[i], result)
			}
			fill(result)
		}
		if !slices.Equal(held[:cap(held)], whole) || !slices.Equal(behind, listed) {
			t.Fatalf("%v has become %v, or %v %v", whole, held[:cap(held)], listed, behind)
		}
	}
}

func FuzzLock(f *testing.F) { // P8.1 to P8.4
	f.Add([]byte{0, 3, 200, 64}, []byte{0, 0, 1, 1, 0, 3, 4, 1, 132, 1})
	f.Add([]byte{128}, []byte{0, 2, 0, 2, 128, 2, 0, 3, 128, 2, 0, 3})
	f.Fuzz(func(t *testing.T, sizes, steps []byte) {
		var l []api.Mutex
		for _, b := range sizes[:min(len(sizes), api.MaxMutexes)] {
			l = append(l, api.Mutex{Size: int(b&127) % (api.MaxElements + 1), Reentrant: b > 127})
		}
		compareNumbers(t, l)
		held, h := table.New(l), history{}
		for i := 0; i+1 < min(len(steps), 200); i += 2 {
			held = step(t, l, held, h, int(steps[i]&127)-1, int(steps[i+1]&7)-1, steps[i] > 127)
		}
		compareDepths(t, l, held, h, 8)
	})
}
