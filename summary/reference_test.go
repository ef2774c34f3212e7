package summary_test

import (
	"slices"
	"strings"
	"testing"

	"lockorder/api"
	"lockorder/flow"
)

// depths is a set of depths.
type depths map[int]bool

func (l depths) add(more depths) {
	for d := range more {
		l[d] = true
	}
}

// reading is a program that is read as it is written, for one mutex.
type reading struct {
	functions map[string]api.Func
	mutex     string
	limit     int
	known     map[string][]depths // for each instance, such as f(a,b), the depths at its end, as far as they are known
}

func (s subject) reading(m int) *reading {
	r := &reading{functions: map[string]api.Func{}, mutex: s.unit.Mutexes[m].Name, limit: s.limit(m), known: map[string][]depths{}}
	for _, f := range s.program.Funcs {
		r.functions[f.Name] = f
	}
	for n := range s.closure.Instances {
		r.known[s.name(n)] = make([]depths, r.limit+1)
	}
	return r
}

// round replaces what is known of all instances by what they do if that is what they do.
func (r *reading) round() {
	next := map[string][]depths{}
	for i := range r.known {
		next[i] = r.ends(i)
	}
	r.known = next
}

// ends returns, for each depth at the beginning of an instance, those at its end.
func (r *reading) ends(i string) []depths {
	name, rest, _ := strings.Cut(strings.TrimSuffix(i, ")"), "(")
	mutexes := strings.Split(rest, ",")
	means := map[string]string{}
	for _, p := range r.functions[name].Params {
		if p.Mutex {
			means[p.Name], mutexes = mutexes[0], mutexes[1:]
		}
	}
	var l []depths
	for d := range r.limit + 1 {
		returned := depths{}
		returned.add(r.block(r.functions[name].Body, means, depths{d: true}, returned))
		l = append(l, returned)
	}
	return l
}

// block returns the depths behind a list of statements, and adds those at its returns.
func (r *reading) block(body []api.Stmt, means map[string]string, before, returned depths) depths {
	for _, s := range body {
		before = r.statement(s, means, before, returned)
	}
	return before
}

func (r *reading) statement(s api.Stmt, means map[string]string, before, returned depths) depths {
	after := depths{}
	switch s.Kind {
	case api.StmtReturn:
		returned.add(before)
	case api.StmtLock, api.StmtUnlock:
		change := map[int]int{api.StmtLock: 1, api.StmtUnlock: -1}[s.Kind]
		if meaning(means, s.Ref) != r.mutex {
			change = 0
		}
		for d := range before {
			if d+change >= 0 && d+change <= r.limit {
				after[d+change] = true
			}
		}
	case api.StmtCall:
		var mutexes []string
		for _, a := range s.Args {
			if a.Mutex {
				mutexes = append(mutexes, meaning(means, a.Ref))
			}
		}
		for d := range before {
			after.add(r.known[s.Name+"("+strings.Join(mutexes, ",")+")"][d])
		}
	case api.StmtIf:
		after.add(r.block(s.Then, means, before, returned))
		after.add(r.block(s.Else, means, before, returned))
	case api.StmtWhile:
		after.add(before)
		for n := -1; n < len(after); {
			n = len(after)
			after.add(r.block(s.Then, means, after, returned))
		}
	default:
		after.add(before)
	}
	return after
}

// meaning returns the name of the mutex that a reference stands for.
func meaning(means map[string]string, ref api.Ref) string {
	if m, is := means[ref.Name]; is {
		return m
	}
	return ref.Name
}

// list returns what is known as a list of summaries.
func (r *reading) list(s subject) [][]int {
	var all [][]int
	for n := range s.closure.Instances {
		relation := make([]int, r.limit+1)
		for d, ends := range r.known[s.name(n)] {
			for e := range ends {
				relation[d] |= 1 << e
			}
		}
		all = append(all, relation)
	}
	return all
}

// place is where a thread is in an instance, and to which depth it holds the mutex.
type place struct{ pc, depth int }

// innerOf returns what is expected of Inner: each depth at the beginning is followed on its own.
func (s subject) innerOf(m int, summaries [][]int, i int) [][]int {
	instance, limit := s.closure.Instances[i], s.limit(m)
	code := s.unit.Procs[instance.Proc].Code
	want := make([][]int, len(code))
	for pc := range want {
		want[pc] = make([]int, limit+1)
	}
	for begin := range limit + 1 {
		for list := []place{{0, begin}}; len(list) > 0; {
			x := list[len(list)-1]
			list = list[:len(list)-1]
			if want[x.pc][begin]>>x.depth&1 == 1 {
				continue
			}
			want[x.pc][begin] |= 1 << x.depth
			after := 0
			if d := x.depth + flow.Change(s.unit, instance, x.pc, m); d >= 0 && d <= limit {
				after = 1 << d
			}
			if code[x.pc].Op == api.InstrCall {
				after = summaries[s.closure.Calls[i][x.pc]][x.depth]
			}
			for _, pc := range flow.Next(s.unit, instance, x.pc) {
				for d := range limit + 1 {
					if after>>d&1 == 1 {
						list = append(list, place{pc, d})
					}
				}
			}
		}
	}
	return want
}

// position is a thread on a path: the depth, and where it is in what it has called, which has room for one call more than is ever asked for.
type position struct {
	depth, height int
	stack         [4]api.Point
}

// steps returns the positions that may follow.
func (s subject) steps(m int, x position) []position {
	at := x.stack[x.height-1]
	instance := s.closure.Instances[at.Instance]
	op := s.unit.Procs[instance.Proc].Code[at.PC].Op
	var l []position
	for _, pc := range flow.Next(s.unit, instance, at.PC) {
		y := x
		y.depth += flow.Change(s.unit, instance, at.PC, m)
		y.stack[y.height-1].PC = pc
		if op == api.InstrCall {
			y.stack[y.height].Instance = s.closure.Calls[at.Instance][at.PC]
			y.height++
		}
		l = append(l, y)
	}
	if op == api.InstrReturn {
		x.height--
		x.stack[x.height] = api.Point{}
		l = append(l, x)
	}
	return l
}

// paths returns the relations before the instructions of an instance and at its end by all paths on which no more calls are open than height, that of the instance included.
func (s subject) paths(m, i, height int) (inner [][]int, exit []int) {
	limit := s.limit(m)
	exit = make([]int, limit+1)
	for range s.closure.Calls[i] {
		inner = append(inner, make([]int, limit+1))
	}
	for begin := range limit + 1 {
		first := position{depth: begin, height: 1}
		first.stack[0].Instance = i
		found := map[position]bool{first: true}
		for list := []position{first}; len(list) > 0; {
			x := list[len(list)-1]
			list = list[:len(list)-1]
			if x.height == 0 {
				exit[begin] |= 1 << x.depth
				continue
			}
			if x.height == 1 {
				inner[x.stack[0].PC][begin] |= 1 << x.depth
			}
			for _, y := range s.steps(m, x) {
				if y.height <= height && y.depth >= 0 && y.depth <= limit && !found[y] {
					found[y] = true
					list = append(list, y)
				}
			}
		}
	}
	return inner, exit
}

// seen counts what programs have.
type seen struct {
	programs, instances, mutexes int
	rounds                       [6]int // mutexes whose summaries change in so many rounds, or more
	pairs                        int    // of depths in summaries
	paths                        int    // relations that are compared with those of paths
}

// compare tests all functions for a program.
func (s subject) compare(t *testing.T, count *seen) {
	t.Helper()
	count.programs++
	count.instances += len(s.closure.Instances)
	for m := range s.unit.Mutexes {
		count.mutexes++
		s.compareRounds(t, m, count)
	}
}

// compareRounds tests all functions for a mutex.
func (s subject) compareRounds(t *testing.T, m int, count *seen) {
	t.Helper()
	r := s.reading(m)
	last := r.list(s)
	for n := 0; ; n++ {
		if l := s.rounds(m, n); n <= 100 && !equal(l, last) {
			t.Fatalf("%s: Rounds(%d, %d) = %v; want %v", s.text, m, n, l, last)
		}
		r.round()
		next := r.list(s)
		if equal(next, last) {
			count.rounds[min(n, 5)]++
			break
		}
		last = next
	}
	if l := s.of(m); !equal(l, last) {
		t.Fatalf("%s: Of(%d) = %v; want %v", s.text, m, l, last)
	}
	for i := range last {
		for _, set := range last[i] {
			for ; set > 0; set &= set - 1 {
				count.pairs++
			}
		}
		s.compareInner(t, m, last, i)
	}
}

// compareInner tests Inner for these summaries.
func (s subject) compareInner(t *testing.T, m int, summaries [][]int, i int) {
	t.Helper()
	want := s.innerOf(m, summaries, i)
	if got := s.inner(m, summaries, i); !equal(got, want) {
		t.Fatalf("%s: Inner(%d, %v, %s) = %v; want %v", s.text, m, summaries, s.name(i), got, want)
	}
}

// comparePaths tests what the relations mean: Rounds(n) has the paths whose calls are nested up to n.
func (s subject) comparePaths(t *testing.T, m, height int, count *seen) {
	t.Helper()
	within, of := s.rounds(m, height-1), s.rounds(m, height)
	for i := range s.closure.Instances {
		inner, exit := s.paths(m, i, height)
		if got := s.inner(m, within, i); !equal(got, inner) {
			t.Fatalf("%s: Inner(%d, Rounds(%d), %s) = %v; want %v", s.text, m, height-1, s.name(i), got, inner)
		}
		if !slices.Equal(of[i], exit) {
			t.Fatalf("%s: Rounds(%d, %d) = %v for %s; want %v", s.text, m, height, of[i], s.name(i), exit)
		}
		count.paths++
	}
}
