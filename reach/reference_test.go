package reach_test

import (
	"maps"
	"slices"
	"strings"
	"testing"

	"lockorder/api"
	"lockorder/flow"
	"lockorder/instance"
)

// depths is a set of depths.
type depths map[int]bool

func (l depths) add(more depths) {
	for d := range more {
		l[d] = true
	}
}

// number returns the set as a number.
func (l depths) number() int {
	n := 0
	for d := range l {
		n |= 1 << d
	}
	return n
}

// context is an instance, such as f(a,b), and a depth at its beginning.
type context struct {
	instance string
	depth    int
}

// found is what has been found of a context: the depths before each instruction, and at the end.
type found struct {
	before []depths
	end    depths
}

// reading is a program that is read as it is written, for one mutex. Each depth at the beginning of an instance is followed on its own.
type reading struct {
	functions map[string]api.Func
	mutex     string
	limit     int
	contexts  map[context]found
}

func (s subject) reading(m int) *reading {
	r := &reading{functions: map[string]api.Func{}, mutex: s.unit.Mutexes[m].Name, limit: s.limit(m), contexts: map[context]found{}}
	for _, f := range s.program.Funcs {
		r.functions[f.Name] = f
	}
	r.reach(context{"main()", 0})
	// Without any depth at the beginning, this finds what an instance starts.
	for n := range s.closure.Instances {
		r.walk(s.name(n), depths{})
	}
	for size := -1; size != r.size(); {
		size = r.size()
		for _, x := range slices.Collect(maps.Keys(r.contexts)) {
			r.contexts[x] = r.walk(x.instance, depths{x.depth: true})
		}
	}
	return r
}

// size returns a number that grows with what is found.
func (r *reading) size() int {
	n := len(r.contexts)
	for _, f := range r.contexts {
		n += len(f.end)
	}
	return n
}

// reach adds a context.
func (r *reading) reach(x context) {
	if _, is := r.contexts[x]; !is {
		r.contexts[x] = found{}
	}
}

// walk is a walk through the text of a function.
type walk struct {
	*reading
	means map[string]string // what its mutex parameters stand for
	found
}

// walk returns what follows from these depths at the beginning of an instance, as far as it is known what calls do.
func (r *reading) walk(instance string, begin depths) found {
	name, rest, _ := strings.Cut(strings.TrimSuffix(instance, ")"), "(")
	mutexes := strings.Split(rest, ",")
	w := walk{r, map[string]string{}, found{end: depths{}}}
	for _, p := range r.functions[name].Params {
		if p.Mutex {
			w.means[p.Name], mutexes = mutexes[0], mutexes[1:]
		}
	}
	w.end.add(w.note(w.block(r.functions[name].Body, begin)))
	return w.found
}

// note adds the depths before the next instruction, and returns them.
func (w *walk) note(l depths) depths {
	w.before = append(w.before, maps.Clone(l))
	return l
}

// block returns the depths behind a list of statements.
func (w *walk) block(body []api.Stmt, l depths) depths {
	for _, s := range body {
		l = w.statement(s, l)
	}
	return l
}

func (w *walk) statement(s api.Stmt, l depths) depths {
	after := depths{}
	switch s.Kind {
	case api.StmtReturn:
		w.end.add(w.note(l))
	case api.StmtLock, api.StmtUnlock:
		after = w.change(s, w.note(l))
	case api.StmtCall:
		for d := range w.note(l) {
			x := context{w.callee(s), d}
			w.reach(x)
			after.add(w.contexts[x].end)
		}
	case api.StmtGo:
		after.add(w.note(l))
		w.reach(context{w.callee(s), 0})
	case api.StmtIf:
		after.add(w.block(s.Then, w.note(l)))
		if len(s.Else) > 0 {
			w.note(after)
		}
		after.add(w.block(s.Else, l))
	case api.StmtWhile:
		after.add(l)
		for n, start := -1, len(w.before); n < len(after); {
			n = len(after)
			w.before = w.before[:start]
			after.add(w.note(w.block(s.Then, w.note(after))))
		}
	default:
		after.add(w.note(l))
	}
	return after
}

// change returns the depths behind a lock or an unlock.
func (w *walk) change(s api.Stmt, l depths) depths {
	change := map[int]int{api.StmtLock: 1, api.StmtUnlock: -1}[s.Kind]
	if w.meaning(s.Ref) != w.mutex {
		change = 0
	}
	after := depths{}
	for d := range l {
		if d+change >= 0 && d+change <= w.limit {
			after[d+change] = true
		}
	}
	return after
}

// callee returns the instance that a statement calls or starts.
func (w *walk) callee(s api.Stmt) string {
	var mutexes []string
	for _, a := range s.Args {
		if a.Mutex {
			mutexes = append(mutexes, w.meaning(a.Ref))
		}
	}
	return s.Name + "(" + strings.Join(mutexes, ",") + ")"
}

// meaning returns the name of the mutex that a reference stands for.
func (w *walk) meaning(ref api.Ref) string {
	if m, is := w.means[ref.Name]; is {
		return m
	}
	return ref.Name
}

// sets is what the functions return for a mutex.
type sets struct {
	entries []int
	before  [][]int
	exits   []int
}

// empty returns the sets without depths.
func (s subject) empty() sets {
	n := len(s.closure.Instances)
	x := sets{make([]int, n), make([][]int, n), make([]int, n)}
	for i, calls := range s.closure.Calls {
		x.before[i] = make([]int, len(calls))
	}
	return x
}

// sets returns what has been read.
func (r *reading) sets(s subject) sets {
	numbers := map[string]int{}
	for n := range s.closure.Instances {
		numbers[s.name(n)] = n
	}
	l := s.empty()
	for x, f := range r.contexts {
		i := numbers[x.instance]
		l.entries[i] |= 1 << x.depth
		l.exits[i] |= f.end.number()
		for pc, before := range f.before {
			l.before[i][pc] |= before.number()
		}
	}
	return l
}

// actual returns what the functions return.
func (s subject) actual(m int) sets { return sets{s.entries(m), s.before(m), s.exits(m)} }

// related reports whether the relation is true of all pairs of sets, and the lists have the same lengths.
func (x sets) related(y sets, is func(a, b int) bool) bool {
	list := func(a, b []int) bool { return slices.EqualFunc(a, b, is) }
	return list(x.entries, y.entries) && slices.EqualFunc(x.before, y.before, list) && list(x.exits, y.exits)
}

func same(a, b int) bool   { return a == b }
func within(a, b int) bool { return a&^b == 0 }

// mostOpen is the greatest number of instances that a position can be in at once.
const mostOpen = 6

// position is a thread on a path: the depth, and where it is in what it has called.
type position struct {
	depth, height int
	stack         [mostOpen + 1]api.Point
}

// top returns where the thread is.
func (x position) top() api.Point { return x.stack[x.height-1] }

// steps returns the positions that may follow.
func (s subject) steps(m int, x position) []position {
	at := x.top()
	i := s.closure.Instances[at.Instance]
	op := s.unit.Procs[i.Proc].Code[at.PC].Op
	var l []position
	for _, pc := range flow.Next(s.unit, i, at.PC) {
		y := x
		y.depth += flow.Change(s.unit, i, at.PC, m)
		y.stack[y.height-1].PC = pc
		if op == api.InstrCall {
			y.stack[y.height].Instance = s.closure.Calls[at.Instance][at.PC]
			y.height++
		}
		l = append(l, y)
	}
	if op == api.InstrReturn {
		x.height--
		x.stack[x.height] = api.Point{}
		l = append(l, x)
	}
	return l
}

// pathSets returns the depths on all paths on which no more calls are open than height, that of the root included, and whether these are all paths.
func (s subject) pathSets(m, height int) (sets, bool) {
	l, whole := s.empty(), true
	known := map[position]bool{}
	var list []position
	reach := func(x position) {
		if known[x] || x.depth < 0 || x.depth > s.limit(m) {
			return
		}
		if x.height > height {
			whole = false
			return
		}
		known[x] = true
		list = append(list, x)
	}
	for _, root := range s.closure.Roots {
		l.entries[root] |= 1
		reach(position{height: 1, stack: [mostOpen + 1]api.Point{{Instance: root}}})
	}
	for len(list) > 0 {
		x := list[len(list)-1]
		list = list[:len(list)-1]
		if x.height == 0 {
			continue
		}
		at := x.top()
		l.before[at.Instance][at.PC] |= 1 << x.depth
		for _, y := range s.steps(m, x) {
			if y.height < x.height {
				l.exits[at.Instance] |= 1 << x.depth
			}
			if y.height > x.height && y.height <= height {
				l.entries[y.top().Instance] |= 1 << y.depth
			}
			reach(y)
		}
	}
	return l, whole
}

// seen counts what programs have.
type seen struct {
	programs, instances, mutexes int
	kinds                        [4]int // sets that are empty, only have 0, do not have 0, have 0 and others
	deep                         int    // sets of more than two depths
	mixed                        int    // entries of more than one depth
	whole, parts                 int    // mutexes for which all paths are compared, or only some
}

// compare tests all functions for a program.
func (s subject) compare(t *testing.T, count *seen) {
	t.Helper()
	count.programs++
	count.instances += len(s.closure.Instances)
	for m := range s.unit.Mutexes {
		count.mutexes++
		got := s.actual(m)
		if want := s.reading(m).sets(s); !got.related(want, same) {
			t.Fatalf("%s: of mutex %d the sets are %v; want %v", s.text, m, got, want)
		}
		for _, e := range got.entries {
			if e&(e-1) != 0 {
				count.mixed++
			}
		}
		s.compareHeld(t, m, got.before, count)
	}
}

// compareHeld tests May and Must, if these are the depths before the instructions; of a large program, only for some of them.
func (s subject) compareHeld(t *testing.T, m int, before [][]int, count *seen) {
	t.Helper()
	every := 1 + instance.Sites(s.unit, s.closure)/25
	for i, l := range before {
		for pc, set := range l {
			if (i+pc)%every != 0 {
				continue
			}
			zero, above := set&1 == 1, set > 1
			if may, must := s.may(m, i, pc), s.must(m, i, pc); may != above || must != (above && !zero) {
				t.Fatalf("%s: before instruction %d of %s the set is %d, May = %v, Must = %v", s.text, pc, s.name(i), set, may, must)
			}
			kind := map[[2]bool]int{{true, false}: 1, {false, true}: 2, {true, true}: 3}[[2]bool{zero, above}]
			count.kinds[kind]++
			if rest := set & (set - 1); rest&(rest-1) != 0 {
				count.deep++
			}
		}
	}
}

// comparePaths tests P17.3: the sets are those of the paths. Where a path may have more open calls than are followed, they only contain those of the paths.
func (s subject) comparePaths(t *testing.T, m, height int, count *seen) {
	t.Helper()
	got := s.actual(m)
	want, whole := s.pathSets(m, height)
	if !want.related(got, within) || whole && !want.related(got, same) {
		t.Fatalf("%s: of mutex %d the sets are %v; those of the paths are %v", s.text, m, got, want)
	}
	if whole {
		count.whole++
	} else {
		count.parts++
	}
}
