package edge_test

import (
	"cmp"
	"slices"
	"strings"
	"testing"

	"lockorder/api"
	"lockorder/edge"
	"lockorder/machine"
	"lockorder/reach"
	"lockorder/simulate"
)

// context is an instance, such as f(a,b), and a depth at its beginning.
type context struct {
	instance string
	depth    int
}

// place is an instruction of an instance.
type place struct {
	instance string
	pc       int
}

// fact says that the depth of a mutex may be that one before an instruction, after this depth at the beginning of the instance.
type fact struct {
	context
	pc, depth int
}

// search follows one mutex. Instances and mutexes only have names here.
type search struct {
	subject
	mutex   string
	limit   int
	known   map[fact]bool
	list    []fact
	callers map[context][]fact
	exits   map[context][]int
}

// code returns the code of an instance.
func (s subject) code(instance string) []api.Instr {
	name, _, _ := strings.Cut(instance, "(")
	for _, p := range s.unit.Procs {
		if p.Name == name {
			return p.Code
		}
	}
	return nil
}

// meaning returns the name of the mutex that a place stands for in an instance.
func (s subject) meaning(instance string, p api.Place) string {
	if !p.Param {
		return s.unit.Mutexes[p.Index].Name
	}
	_, rest, _ := strings.Cut(strings.TrimSuffix(instance, ")"), "(")
	return strings.Split(rest, ",")[p.Index]
}

// callee returns the instance that an instruction of an instance calls or starts.
func (s subject) callee(instance string, instr api.Instr) string {
	var l []string
	for _, p := range instr.Places {
		l = append(l, s.meaning(instance, p))
	}
	return s.unit.Procs[instr.Target].Name + "(" + strings.Join(l, ",") + ")"
}

// instances returns the instances of a program, and those of them in which threads begin.
func (s subject) instances() ([]string, []string) {
	all, roots := []string{"main()"}, []string{"main()"}
	for n := 0; n < len(all); n++ {
		for _, instr := range s.code(all[n]) {
			if instr.Op != api.InstrCall && instr.Op != api.InstrGo {
				continue
			}
			x := s.callee(all[n], instr)
			if !slices.Contains(all, x) {
				all = append(all, x)
			}
			if instr.Op == api.InstrGo {
				roots = append(roots, x)
			}
		}
	}
	return all, roots
}

// depths returns the depths of the mutex m before each instruction, as far as there are any.
func (s subject) depths(m int) map[place]map[int]bool {
	x := search{subject: s, mutex: s.unit.Mutexes[m].Name, limit: s.limit(m), known: map[fact]bool{}, callers: map[context][]fact{}, exits: map[context][]int{}}
	_, roots := s.instances()
	for _, root := range roots {
		x.add(fact{context: context{root, 0}})
	}
	for len(x.list) > 0 {
		f := x.list[len(x.list)-1]
		x.list = x.list[:len(x.list)-1]
		x.step(f)
	}
	l := map[place]map[int]bool{}
	for f := range x.known {
		at := place{f.instance, f.pc}
		if l[at] == nil {
			l[at] = map[int]bool{}
		}
		l[at][f.depth] = true
	}
	return l
}

// limit returns the greatest depth of the mutex m.
func (s subject) limit(m int) int {
	if x := s.unit.Mutexes[m]; x.Size == 0 && !x.Reentrant {
		return 1
	}
	return 8
}

func (x *search) add(f fact) {
	if f.depth >= 0 && f.depth <= x.limit && !x.known[f] {
		x.known[f] = true
		x.list = append(x.list, f)
	}
}

// at returns the fact at another instruction, with a depth that differs so much.
func (f fact) at(pc, change int) fact { return fact{f.context, pc, f.depth + change} }

// step adds what follows from a fact.
func (x *search) step(f fact) {
	instr := x.code(f.instance)[f.pc]
	switch instr.Op {
	case api.InstrReturn:
		x.exits[f.context] = append(x.exits[f.context], f.depth)
		for _, caller := range x.callers[f.context] {
			x.add(fact{caller.context, caller.pc + 1, f.depth})
		}
	case api.InstrCall:
		called := context{x.callee(f.instance, instr), f.depth}
		x.callers[called] = append(x.callers[called], f)
		x.add(fact{called, 0, f.depth})
		for _, d := range x.exits[called] {
			x.add(fact{f.context, f.pc + 1, d})
		}
	case api.InstrBranch:
		x.add(f.at(f.pc+1, 0))
		x.add(f.at(instr.Target, 0))
	case api.InstrJump:
		x.add(f.at(instr.Target, 0))
	case api.InstrLock, api.InstrUnlock:
		change := 0
		if x.meaning(f.instance, instr.Place) == x.mutex {
			change = map[int]int{api.InstrLock: 1, api.InstrUnlock: -1}[instr.Op]
		}
		x.add(f.at(f.pc+1, change))
	default:
		x.add(f.at(f.pc+1, 0))
	}
}

// expected is what follows from the depths of all mutexes.
type expected struct {
	subject
	depths  []map[place]map[int]bool // by the numbers of the mutexes
	numbers map[string]int           // of the instances
}

func (s subject) expected() expected {
	x := expected{subject: s, numbers: map[string]int{}}
	for m := range s.unit.Mutexes {
		x.depths = append(x.depths, s.depths(m))
	}
	for n := range s.closure.Instances {
		x.numbers[s.name(n)] = n
	}
	return x
}

// may reports whether the mutex m may be held before an instruction.
func (x expected) may(m int, at place) bool {
	for d := range x.depths[m][at] {
		if d > 0 {
			return true
		}
	}
	return false
}

// must reports whether the mutex m must be held before an instruction.
func (x expected) must(m int, at place) bool { return x.may(m, at) && !x.depths[m][at][0] }

// edges returns the edges as P20.1 describes them.
func (x expected) edges() []api.Edge {
	var l []api.Edge
	all, _ := x.instances()
	for _, name := range all {
		for pc, instr := range x.code(name) {
			if instr.Op != api.InstrLock {
				continue
			}
			locked := x.meaning(name, instr.Place)
			b := slices.IndexFunc(x.unit.Mutexes, func(m api.Mutex) bool { return m.Name == locked })
			for a, m := range x.unit.Mutexes {
				if !x.may(a, place{name, pc}) || m.Name == locked && m.Size == 0 {
					continue
				}
				if !x.unit.Mutexes[b].Reentrant || x.depths[b][place{name, pc}][0] {
					l = append(l, api.Edge{Held: a, Acquired: b, Instance: x.numbers[name], PC: pc})
				}
			}
		}
	}
	slices.SortFunc(l, func(x, y api.Edge) int {
		return cmp.Or(cmp.Compare(x.Held, y.Held), cmp.Compare(x.Acquired, y.Acquired), cmp.Compare(x.Instance, y.Instance), cmp.Compare(x.PC, y.PC))
	})
	return l
}

// held returns the mutexes for which is is true.
func (x expected) held(is func(m int, at place) bool, at place) []int {
	var l []int
	for m := range x.unit.Mutexes {
		if is(m, at) {
			l = append(l, m)
		}
	}
	return l
}

// seen counts what programs have.
type seen struct {
	programs, instances int
	edges, pairs        int
	self                int // edges from an array to itself
	reentrant           int // locks of a reentrant mutex that have an edge
	again               int // locks of a reentrant mutex that have none, though another mutex may be held
	scalar              int // locks of a scalar that may be held
	may, must           int // mutexes in what Held returns
}

// compare tests P20.1 and P20.2 for a program, and Held before every so many instructions.
func (s subject) compare(t *testing.T, every int, count *seen) {
	t.Helper()
	count.programs++
	count.instances += len(s.closure.Instances)
	want, got := s.expected(), s.edges()
	if edges := want.edges(); !slices.Equal(got, edges) {
		t.Fatalf("%.3000s: the edges are %v; want %v", s.source, got, edges)
	}
	s.comparePairs(t, got, count)
	all, _ := s.instances()
	n := 0
	for _, name := range all {
		for pc, instr := range s.code(name) {
			if n++; n%every == 0 {
				s.compareHeld(t, want, place{name, pc}, count)
			}
			if instr.Op == api.InstrLock {
				count.lock(want, place{name, pc}, s.meaning(name, instr.Place), got)
			}
		}
	}
}

// comparePairs tests that Pairs returns the pairs of edges in ascending order.
func (s subject) comparePairs(t *testing.T, l []api.Edge, count *seen) {
	t.Helper()
	pairs := edge.Pairs(l)
	known := map[string]bool{}
	for _, e := range l {
		known[strings.Join(s.mutexNames([]int{e.Held, e.Acquired}), " ")] = true
	}
	for n, pair := range pairs {
		if len(pair) != 2 || !known[strings.Join(s.mutexNames(pair), " ")] || n > 0 && slices.Compare(pairs[n-1], pair) >= 0 {
			t.Fatalf("%.3000s: the pairs of %v are %v", s.source, l, pairs)
		}
	}
	if len(pairs) != len(known) {
		t.Fatalf("%.3000s: the pairs of %v are %v", s.source, l, pairs)
	}
	count.edges += len(l)
	count.pairs += len(pairs)
}

// compareHeld tests Held before an instruction.
func (s subject) compareHeld(t *testing.T, want expected, at place, count *seen) {
	t.Helper()
	i := want.numbers[at.instance]
	may, must := edge.Held(s.unit, s.closure, i, at.pc)
	if !slices.Equal(may, want.held(want.may, at)) || !slices.Equal(must, want.held(want.must, at)) {
		t.Fatalf("%.3000s: before instruction %d of %s, Held = %v, %v; want %v, %v", s.source, at.pc, at.instance, may, must, want.held(want.may, at), want.held(want.must, at))
	}
	for m := range s.unit.Mutexes {
		if reach.May(s.unit, s.closure, m, i, at.pc) != slices.Contains(may, m) || reach.Must(s.unit, s.closure, m, i, at.pc) != slices.Contains(must, m) {
			t.Fatalf("%.3000s: before instruction %d of %s, package reach does not say of mutex %d what Held does: %v, %v", s.source, at.pc, at.instance, m, may, must)
		}
	}
	count.may += len(may)
	count.must += len(must)
}

// lock counts what an instruction that locks the mutex with a name has.
func (count *seen) lock(x expected, at place, locked string, edges []api.Edge) {
	has := slices.ContainsFunc(edges, func(e api.Edge) bool { return e.Instance == x.numbers[at.instance] && e.PC == at.pc })
	held := x.held(x.may, at)
	for m, mutex := range x.unit.Mutexes {
		if mutex.Name != locked {
			continue
		}
		itself := slices.Contains(held, m)
		switch {
		case mutex.Size > 0 && itself:
			count.self++
		case mutex.Size == 0 && itself:
			count.scalar++
		}
		if mutex.Reentrant && has {
			count.reentrant++
		} else if mutex.Reentrant && len(held) > 1 {
			count.again++
		}
	}
}

// order is an edge, in which everything has a name.
type order struct {
	held, acquired string
	place
}

// orders returns the edges of a program.
func (s subject) orders() map[order]bool {
	l := map[order]bool{}
	for _, e := range s.edges() {
		l[order{s.unit.Mutexes[e.Held].Name, s.unit.Mutexes[e.Acquired].Name, place{s.name(e.Instance), e.PC}}] = true
	}
	return l
}

// waiting counts what the threads of runs do.
type waiting struct {
	states  int
	threads int // that wait for what another one holds
	edges   int // that there must be because of what these hold
	self    int // those of them that lead from an array to itself
	events  int // steps that are events
}

// compareWaiting tests P20.3 in a state that is reached without events.
func (s subject) compareWaiting(t *testing.T, orders map[order]bool, state api.State, count *waiting) {
	t.Helper()
	count.states++
	for thread, x := range state.Threads {
		wanted, is := s.elementOf(state, thread)
		if !is || state.Table[wanted].Owner == 0 || state.Table[wanted].Owner == thread+1 {
			continue
		}
		count.threads++
		b := s.elements()[wanted]
		for element, a := range s.elements() {
			if state.Table[element].Owner != thread+1 {
				continue
			}
			want := order{a, b, s.at(x.Frames[len(x.Frames)-1])}
			if !orders[want] {
				t.Fatalf("%.3000s: in %v thread %d holds %s and waits for %s, but there is no edge %v", s.source, state, thread, a, b, want)
			}
			count.edges++
			if a == b {
				count.self++
			}
		}
	}
}

// elements returns the name of the mutex of each element.
func (s subject) elements() []string {
	var l []string
	for _, m := range s.unit.Mutexes {
		l = append(l, slices.Repeat([]string{m.Name}, max(m.Size, 1))...)
	}
	return l
}

// elementOf returns the element that a thread is about to lock, and true, or else false.
func (s subject) elementOf(state api.State, thread int) (int, bool) {
	instr, is := machine.Instruction(s.unit, state, thread)
	if !is || instr.Op != api.InstrLock {
		return 0, false
	}
	element, fault := machine.Element(s.unit, state, thread, instr.Place)
	return element, fault == 0
}

// at returns the instruction of a frame.
func (s subject) at(f api.Frame) place {
	var l []string
	for _, element := range f.Locks {
		l = append(l, s.elements()[element])
	}
	return place{s.unit.Procs[f.Proc].Name + "(" + strings.Join(l, ",") + ")", f.PC}
}

// meetsEvent reports whether the next instruction of a thread would be an event.
func (s subject) meetsEvent(state api.State, thread int) bool {
	kind, _ := simulate.Event(s.unit, s.closure, state, thread)
	return kind != 0
}
