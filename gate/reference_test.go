package gate_test

import (
	"slices"
	"strings"
	"testing"

	"lockorder/api"
	"lockorder/gate"
	"lockorder/simulate"
)

// context is an instance, such as f(a,b), and a depth at its beginning.
type context struct {
	instance string
	depth    int
}

// place is an instruction of an instance.
type place struct {
	instance string
	pc       int
}

// fact says that the depth of a mutex may be that one before an instruction, after this depth at the beginning of the instance.
type fact struct {
	context
	pc, depth int
}

// search follows one mutex. Instances and mutexes only have names here.
type search struct {
	subject
	mutex   string
	limit   int
	known   map[fact]bool
	list    []fact
	callers map[context][]fact
	exits   map[context][]int
}

// code returns the code of an instance.
func (s subject) code(instance string) []api.Instr {
	name, _, _ := strings.Cut(instance, "(")
	for _, p := range s.unit.Procs {
		if p.Name == name {
			return p.Code
		}
	}
	return nil
}

// meaning returns the name of the mutex that a place stands for in an instance.
func (s subject) meaning(instance string, p api.Place) string {
	if !p.Param {
		return s.unit.Mutexes[p.Index].Name
	}
	_, rest, _ := strings.Cut(strings.TrimSuffix(instance, ")"), "(")
	return strings.Split(rest, ",")[p.Index]
}

// callee returns the instance that an instruction of an instance calls or starts.
func (s subject) callee(instance string, instr api.Instr) string {
	var l []string
	for _, p := range instr.Places {
		l = append(l, s.meaning(instance, p))
	}
	return s.unit.Procs[instr.Target].Name + "(" + strings.Join(l, ",") + ")"
}

// instances returns the instances of a program, and those of them in which threads begin.
func (s subject) instances() ([]string, []string) {
	all, roots := []string{"main()"}, []string{"main()"}
	for n := 0; n < len(all); n++ {
		for _, instr := range s.code(all[n]) {
			if instr.Op != api.InstrCall && instr.Op != api.InstrGo {
				continue
			}
			x := s.callee(all[n], instr)
			if !slices.Contains(all, x) {
				all = append(all, x)
			}
			if instr.Op == api.InstrGo {
				roots = append(roots, x)
			}
		}
	}
	return all, roots
}

// depths returns the depths of the mutex m before each instruction, as far as there are any.
func (s subject) depths(m int) map[place]map[int]bool {
	x := search{subject: s, mutex: s.unit.Mutexes[m].Name, limit: s.limit(m), known: map[fact]bool{}, callers: map[context][]fact{}, exits: map[context][]int{}}
	_, roots := s.instances()
	for _, root := range roots {
		x.add(fact{context: context{root, 0}})
	}
	for len(x.list) > 0 {
		f := x.list[len(x.list)-1]
		x.list = x.list[:len(x.list)-1]
		x.step(f)
	}
	l := map[place]map[int]bool{}
	for f := range x.known {
		at := place{f.instance, f.pc}
		if l[at] == nil {
			l[at] = map[int]bool{}
		}
		l[at][f.depth] = true
	}
	return l
}

// limit returns the greatest depth of the mutex m.
func (s subject) limit(m int) int {
	if x := s.unit.Mutexes[m]; x.Size == 0 && !x.Reentrant {
		return 1
	}
	return 8
}

func (x *search) add(f fact) {
	if f.depth >= 0 && f.depth <= x.limit && !x.known[f] {
		x.known[f] = true
		x.list = append(x.list, f)
	}
}

// at returns the fact at another instruction, with a depth that differs so much.
func (f fact) at(pc, change int) fact { return fact{f.context, pc, f.depth + change} }

// step adds what follows from a fact.
func (x *search) step(f fact) {
	instr := x.code(f.instance)[f.pc]
	switch instr.Op {
	case api.InstrReturn:
		x.exits[f.context] = append(x.exits[f.context], f.depth)
		for _, caller := range x.callers[f.context] {
			x.add(fact{caller.context, caller.pc + 1, f.depth})
		}
	case api.InstrCall:
		called := context{x.callee(f.instance, instr), f.depth}
		x.callers[called] = append(x.callers[called], f)
		x.add(fact{called, 0, f.depth})
		for _, d := range x.exits[called] {
			x.add(fact{f.context, f.pc + 1, d})
		}
	case api.InstrBranch:
		x.add(f.at(f.pc+1, 0))
		x.add(f.at(instr.Target, 0))
	case api.InstrJump:
		x.add(f.at(instr.Target, 0))
	case api.InstrLock, api.InstrUnlock:
		change := 0
		if x.meaning(f.instance, instr.Place) == x.mutex {
			change = map[int]int{api.InstrLock: 1, api.InstrUnlock: -1}[instr.Op]
		}
		x.add(f.at(f.pc+1, change))
	default:
		x.add(f.at(f.pc+1, 0))
	}
}

// expected is what follows from the depths of all mutexes.
type expected struct {
	subject
	depths []map[place]map[int]bool // by the numbers of the mutexes
	names  []string                 // of the instances
}

func (s subject) expected() expected {
	x := expected{subject: s}
	for m := range s.unit.Mutexes {
		x.depths = append(x.depths, s.depths(m))
	}
	for _, i := range s.closure.Instances {
		x.names = append(x.names, s.unit.Procs[i.Proc].Name+"("+strings.Join(s.mutexNames(i.Locks), ",")+")")
	}
	return x
}

// mutexNames returns the names of mutexes.
func (s subject) mutexNames(l []int) []string {
	var names []string
	for _, m := range l {
		names = append(names, s.unit.Mutexes[m].Name)
	}
	return names
}

// must reports whether the mutex m must be held at the instruction of an edge.
func (x expected) must(m int, e api.Edge) bool {
	depths := x.depths[m][place{x.names[e.Instance], e.PC}]
	for d := range depths {
		if d == 0 {
			return false
		}
	}
	return len(depths) > 0
}

// inside returns the edges that P22.1 asks for.
func inside(l []api.Edge, component []int) []api.Edge {
	return slices.DeleteFunc(slices.Clone(l), func(e api.Edge) bool {
		return !slices.Contains(component, e.Held) || !slices.Contains(component, e.Acquired)
	})
}

// loop reports whether there is a loop as P22.1 describes it.
func (x expected) loop(l []api.Edge, component []int) bool {
	for m, mutex := range x.unit.Mutexes {
		if slices.ContainsFunc(inside(l, component), func(e api.Edge) bool { return mutex.Size > 0 && e.Held == m && e.Acquired == m }) {
			return true
		}
	}
	return false
}

// gates returns the gates as P22.2 describes them.
func (x expected) gates(l []api.Edge, component []int) []int {
	edges := inside(l, component)
	if len(edges) == 0 || x.loop(l, component) {
		return nil
	}
	var gates []int
	for m, mutex := range x.unit.Mutexes {
		if mutex.Size == 0 && !slices.ContainsFunc(edges, func(e api.Edge) bool { return !x.must(m, e) }) {
			gates = append(gates, m)
		}
	}
	return gates
}

// cyclic returns the components of mutexes that reach one another.
func (x expected) cyclic(l []api.Edge) [][]int {
	var components [][]int
	for m := range x.unit.Mutexes {
		var component []int
		for other := range x.unit.Mutexes {
			if leads(l, m, other) && leads(l, other, m) {
				component = append(component, other)
			}
		}
		if len(component) > 0 && component[0] == m {
			components = append(components, component)
		}
	}
	return components
}

// leads reports whether a path of one or more edges leads from one mutex to another one or the same.
func leads(l []api.Edge, from, to int) bool {
	known := map[int]bool{}
	list := []int{from}
	for len(list) > 0 {
		m := list[0]
		list = list[1:]
		for _, e := range l {
			if e.Held == m && !known[e.Acquired] {
				known[e.Acquired] = true
				list = append(list, e.Acquired)
			}
		}
	}
	return known[to]
}

// seen counts what programs have.
type seen struct {
	programs   int
	components int // that have been tested
	inside     int // those of them with an edge inside
	loops      int // those of them with a loop
	gated      int // those of them with gates
	own        int // those of them with a gate that is one of its mutexes
	reentrant  int // those of them with a gate that is reentrant
	cyclic     int // components with a cycle
	large      int // those of them with three mutexes or more
	ungated    int // those of them without gates
	halfGated  int // those without gates or loops, where a scalar must be held at some of the edges
}

// compare tests P22.1 and P22.2 for a list of edges and a component.
func (x expected) compare(t *testing.T, l []api.Edge, component []int, count *seen) {
	t.Helper()
	edges := gate.Inside(l, component)
	if want := inside(l, component); !slices.Equal(edges, want) {
		t.Fatalf("%.3000s: inside of %v are %v of %v; want %v", x.source, component, edges, l, want)
	}
	is := gate.Loop(x.unit, l, component)
	if want := x.loop(l, component); is != want {
		t.Fatalf("%.3000s: Loop(%v, %v) = %t", x.source, l, component, is)
	}
	gates := gate.Gates(x.unit, x.closure, l, component)
	if want := x.gates(l, component); !slices.Equal(gates, want) {
		t.Fatalf("%.3000s: the gates of %v are %v with the edges %v; want %v", x.source, component, gates, l, want)
	}
	count.components++
	count.inside += min(len(edges), 1)
	count.gated += min(len(gates), 1)
	if is {
		count.loops++
	}
	if slices.ContainsFunc(gates, func(m int) bool { return slices.Contains(component, m) }) {
		count.own++
	}
	if slices.ContainsFunc(gates, func(m int) bool { return x.unit.Mutexes[m].Reentrant }) {
		count.reentrant++
	}
}

// compareUngated tests P22.3 for a list of edges, and the other promises for its components.
func (x expected) compareUngated(t *testing.T, l []api.Edge, count *seen) {
	t.Helper()
	count.programs++
	components := x.cyclic(l)
	var want [][]int
	for _, component := range components {
		x.compare(t, l, component, count)
		count.large += min(len(component)/3, 1)
		if len(x.gates(l, component)) == 0 {
			want = append(want, component)
			if !x.loop(l, component) && x.isHalfGated(inside(l, component)) {
				count.halfGated++
			}
		}
	}
	if got := gate.Ungated(x.unit, x.closure, l); !slices.EqualFunc(got, want, slices.Equal) {
		t.Fatalf("%.3000s: of the components of %v %v have no gates; want %v", x.source, l, got, want)
	}
	count.cyclic += len(components)
	count.ungated += len(want)
}

// isHalfGated reports whether a scalar must be held at the instruction of one of the edges.
func (x expected) isHalfGated(l []api.Edge) bool {
	for m, mutex := range x.unit.Mutexes {
		if mutex.Size == 0 && slices.ContainsFunc(l, func(e api.Edge) bool { return m != e.Held && x.must(m, e) }) {
			return true
		}
	}
	return false
}

// meetsEvent reports whether the next instruction of a thread would be an event.
func (s subject) meetsEvent(state api.State, thread int) bool {
	kind, _ := simulate.Event(s.unit, s.closure, state, thread)
	return kind != 0
}
