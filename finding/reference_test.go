package finding_test

import (
	"slices"
	"strings"
	"testing"

	"lockorder/api"
	"lockorder/finding"
)

// context is an instance, such as f(a,b), and a depth at its beginning.
type context struct {
	instance string
	depth    int
}

// place is an instruction of an instance.
type place struct {
	instance string
	pc       int
}

// fact says that the depth of a mutex may be that one before an instruction, after this depth at the beginning of the instance.
type fact struct {
	context
	pc, depth int
}

// search follows one mutex. Instances and mutexes only have names here.
type search struct {
	subject
	mutex   string
	limit   int
	known   map[fact]bool
	list    []fact
	callers map[context][]fact
	exits   map[context][]int
}

// code returns the code of an instance.
func (s subject) code(instance string) []api.Instr {
	name, _, _ := strings.Cut(instance, "(")
	for _, p := range s.unit.Procs {
		if p.Name == name {
			return p.Code
		}
	}
	return nil
}

// meaning returns the name of the mutex that a place stands for in an instance.
func (s subject) meaning(instance string, p api.Place) string {
	if !p.Param {
		return s.unit.Mutexes[p.Index].Name
	}
	_, rest, _ := strings.Cut(strings.TrimSuffix(instance, ")"), "(")
	return strings.Split(rest, ",")[p.Index]
}

// callee returns the instance that an instruction of an instance calls or starts.
func (s subject) callee(instance string, instr api.Instr) string {
	var l []string
	for _, p := range instr.Places {
		l = append(l, s.meaning(instance, p))
	}
	return s.unit.Procs[instr.Target].Name + "(" + strings.Join(l, ",") + ")"
}

// instances returns the instances of a program, and those of them in which threads begin.
func (s subject) instances() ([]string, []string) {
	all, roots := []string{"main()"}, []string{"main()"}
	for n := 0; n < len(all); n++ {
		for _, instr := range s.code(all[n]) {
			if instr.Op != api.InstrCall && instr.Op != api.InstrGo {
				continue
			}
			x := s.callee(all[n], instr)
			if !slices.Contains(all, x) {
				all = append(all, x)
			}
			if instr.Op == api.InstrGo && !slices.Contains(roots, x) {
				roots = append(roots, x)
			}
		}
	}
	return all, roots
}

// follow returns the search that has followed the mutex m to all ends.
func (s subject) follow(m int) *search {
	x := &search{subject: s, mutex: s.unit.Mutexes[m].Name, limit: s.limit(m), known: map[fact]bool{}, callers: map[context][]fact{}, exits: map[context][]int{}}
	_, roots := s.instances()
	for _, root := range roots {
		x.add(fact{context: context{root, 0}})
	}
	for len(x.list) > 0 {
		f := x.list[len(x.list)-1]
		x.list = x.list[:len(x.list)-1]
		x.step(f)
	}
	return x
}

// depths returns the depths of the mutex before each instruction, as far as there are any.
func (x *search) depths() map[place]map[int]bool {
	l := map[place]map[int]bool{}
	for f := range x.known {
		at := place{f.instance, f.pc}
		if l[at] == nil {
			l[at] = map[int]bool{}
		}
		l[at][f.depth] = true
	}
	return l
}

// limit returns the greatest depth of the mutex m.
func (s subject) limit(m int) int {
	if x := s.unit.Mutexes[m]; x.Size == 0 && !x.Reentrant {
		return 1
	}
	return 8
}

func (x *search) add(f fact) {
	if f.depth >= 0 && f.depth <= x.limit && !x.known[f] {
		x.known[f] = true
		x.list = append(x.list, f)
	}
}

// at returns the fact at another instruction, with a depth that differs so much.
func (f fact) at(pc, change int) fact { return fact{f.context, pc, f.depth + change} }

// step adds what follows from a fact.
func (x *search) step(f fact) {
	instr := x.code(f.instance)[f.pc]
	switch instr.Op {
	case api.InstrReturn:
		x.exits[f.context] = append(x.exits[f.context], f.depth)
		for _, caller := range x.callers[f.context] {
			x.add(fact{caller.context, caller.pc + 1, f.depth})
		}
	case api.InstrCall:
		called := context{x.callee(f.instance, instr), f.depth}
		x.callers[called] = append(x.callers[called], f)
		x.add(fact{called, 0, f.depth})
		for _, d := range x.exits[called] {
			x.add(fact{f.context, f.pc + 1, d})
		}
	case api.InstrBranch:
		x.add(f.at(f.pc+1, 0))
		x.add(f.at(instr.Target, 0))
	case api.InstrJump:
		x.add(f.at(instr.Target, 0))
	case api.InstrLock, api.InstrUnlock:
		change := 0
		if x.meaning(f.instance, instr.Place) == x.mutex {
			change = map[int]int{api.InstrLock: 1, api.InstrUnlock: -1}[instr.Op]
		}
		x.add(f.at(f.pc+1, change))
	default:
		x.add(f.at(f.pc+1, 0))
	}
}

// order says that the mutex b may be locked at an instruction while the mutex a is held.
type order struct {
	a, b int
	place
}

// expected is what follows from the depths of all mutexes.
type expected struct {
	subject
	searches []*search
	depths   []map[place]map[int]bool // by the numbers of the mutexes
	numbers  map[string]int           // of the instances
}

func (s subject) expected() expected {
	x := expected{subject: s, numbers: map[string]int{}}
	for m := range s.unit.Mutexes {
		x.searches = append(x.searches, s.follow(m))
		x.depths = append(x.depths, x.searches[m].depths())
	}
	for n, i := range s.closure.Instances {
		x.numbers[s.unit.Procs[i.Proc].Name+"("+strings.Join(s.names(i.Locks), ",")+")"] = n
	}
	return x
}

// sorted sorts findings as P23.4 describes it. The fields and the list are one list of numbers.
func sorted(l []api.Finding) []api.Finding {
	slices.SortFunc(l, func(a, b api.Finding) int { return slices.Compare(asList(a), asList(b)) })
	return l
}

// asList returns the numbers of a finding, in the order in which they decide.
func asList(f api.Finding) []int {
	return append([]int{f.Kind, f.Instance, f.PC, f.Lock}, f.Locks...)
}

// leaks returns the findings that P23.1 asks for.
func (x expected) leaks() []api.Finding {
	var l []api.Finding
	_, roots := x.instances()
	for _, root := range roots {
		for m, search := range x.searches {
			if slices.ContainsFunc(search.exits[context{root, 0}], func(d int) bool { return d > 0 }) {
				l = append(l, api.Finding{Kind: api.FindLeak, Instance: x.numbers[root], PC: -1, Lock: m})
			}
		}
	}
	return sorted(l)
}

// sites returns the findings that P23.2 asks for.
func (x expected) sites() []api.Finding {
	var l []api.Finding
	x.eachUse(func(at place, op, m int) {
		kind := 0
		switch mutex := x.unit.Mutexes[m]; {
		case op == api.InstrUnlock:
			if x.depths[m][at][0] {
				kind = api.FindUnheld
			}
		case !x.depths[m][at][x.limit(m)]:
		case mutex.Size == 0 && !mutex.Reentrant:
			kind = api.FindSelf
		default:
			kind = api.FindOver
		}
		if kind > 0 {
			l = append(l, api.Finding{Kind: kind, Instance: x.numbers[at.instance], PC: at.pc, Lock: m})
		}
	})
	return sorted(l)
}

// eachUse calls see with each instruction that locks or unlocks a mutex, its operation and the mutex.
func (x expected) eachUse(see func(at place, op, m int)) {
	all, _ := x.instances()
	for _, name := range all {
		for pc, instr := range x.code(name) {
			if instr.Op != api.InstrLock && instr.Op != api.InstrUnlock {
				continue
			}
			used := x.meaning(name, instr.Place)
			see(place{name, pc}, instr.Op, slices.IndexFunc(x.unit.Mutexes, func(m api.Mutex) bool { return m.Name == used }))
		}
	}
}

// may reports whether the mutex m may be held before an instruction.
func (x expected) may(m int, at place) bool {
	for d := range x.depths[m][at] {
		if d > 0 {
			return true
		}
	}
	return false
}

// must reports whether the mutex m must be held before an instruction.
func (x expected) must(m int, at place) bool { return x.may(m, at) && !x.depths[m][at][0] }

// orders returns the lock order.
func (x expected) orders() []order {
	var l []order
	x.eachUse(func(at place, op, b int) {
		if op != api.InstrLock || x.unit.Mutexes[b].Reentrant && !x.depths[b][at][0] {
			return
		}
		for a, m := range x.unit.Mutexes {
			if (a != b || m.Size > 0) && x.may(a, at) {
				l = append(l, order{a, b, at})
			}
		}
	})
	return l
}

// reached returns, for each mutex, those to which a path of the lock order leads from it.
func (x expected) reached(l []order) [][]bool {
	n := len(x.unit.Mutexes)
	to := make([][]bool, n)
	for a := range to {
		to[a] = make([]bool, n)
	}
	for _, o := range l {
		to[o.a][o.b] = true
	}
	for by := range n {
		for a := range n {
			for b := range n {
				to[a][b] = to[a][b] || to[a][by] && to[by][b]
			}
		}
	}
	return to
}

// isGated reports whether a component of the lock order has a gate.
func (x expected) isGated(l []order, component []int) bool {
	inside := slices.DeleteFunc(slices.Clone(l), func(o order) bool {
		return !slices.Contains(component, o.a) || !slices.Contains(component, o.b)
	})
	if slices.ContainsFunc(inside, func(o order) bool { return o.a == o.b }) {
		return false
	}
	for m, mutex := range x.unit.Mutexes {
		if mutex.Size == 0 && !slices.ContainsFunc(inside, func(o order) bool { return !x.must(m, o.place) }) {
			return true
		}
	}
	return false
}

// cycles returns the findings that P23.3 asks for, and the number of the cyclic components that have gates.
func (x expected) cycles() ([]api.Finding, int) {
	orders, gated := x.orders(), 0
	to := x.reached(orders)
	var l []api.Finding
	for m := range to {
		var component []int
		for other := range to {
			if to[m][other] && to[other][m] {
				component = append(component, other)
			}
		}
		if len(component) == 0 || component[0] != m {
			continue
		}
		if x.isGated(orders, component) {
			gated++
		} else {
			l = append(l, api.Finding{Kind: api.FindCycle, Locks: component})
		}
	}
	return sorted(l), gated
}

// seen counts what programs have.
type seen struct {
	programs, instances int
	kinds               [6]int // findings of each kind
	clean               int    // programs without findings
	several             int    // programs with findings of all three parts
	gated               int    // cyclic components with gates
	large               int    // those without gates that have three mutexes or more
	called              int    // findings in instances that are not main
}

// compare tests P23.1 to P23.4 for a program.
func (s subject) compare(t *testing.T, count *seen) {
	t.Helper()
	x := s.expected()
	leaks, sites := x.leaks(), x.sites()
	cycles, gated := x.cycles()
	all := slices.Concat(leaks, sites, cycles)
	s.comparePart(t, "Leaks", finding.Leaks, leaks)
	s.comparePart(t, "Sites", finding.Sites, sites)
	s.comparePart(t, "Cycles", finding.Cycles, cycles)
	s.comparePart(t, "All", finding.All, sorted(all))
	count.programs++
	count.instances += len(s.closure.Instances)
	count.gated += gated
	for _, f := range all {
		count.kinds[f.Kind]++
		count.large += min(len(f.Locks)/3, 1)
		count.called += min(f.Instance, 1)
	}
	if len(all) == 0 {
		count.clean++
	}
	if len(leaks) > 0 && len(sites) > 0 && len(cycles) > 0 {
		count.several++
	}
}

// comparePart tests that a function returns these findings, each of which comes before the next one.
func (s subject) comparePart(t *testing.T, name string, p part, want []api.Finding) {
	t.Helper()
	got := p(s.unit, s.closure)
	if !slices.EqualFunc(got, want, func(a, b api.Finding) bool { return slices.Equal(asList(a), asList(b)) }) {
		t.Fatalf("%.3000s: %s returns %.1000s; want %.1000s", s.source, name, s.texts(got), s.texts(want))
	}
	for n := 1; n < len(got); n++ {
		if !finding.Less(got[n-1], got[n]) || finding.Less(got[n], got[n-1]) {
			t.Fatalf("%.3000s: Less does not agree with the order of %s, which returns %.1000s", s.source, name, s.texts(got))
		}
	}
}
