package flow_test

import (
	"slices"
	"testing"

	"lockorder/api"
	"lockorder/flow"
	"lockorder/instance"
)

// step is what is expected of an instruction of an instance: the mutex whose depth it changes, if it changes one, and where control goes after it.
type step struct {
	mutex  string
	change int
	next   []int
}

// reading is an instance of a function that is read as it is written.
type reading struct {
	means map[string]string // what the mutex parameters stand for
	steps []step
}

// stepsOf returns what is expected of an instance of a program, by the names of its function and mutexes.
func stepsOf(p api.Program, u api.Unit, i api.Instance) []step {
	r := reading{means: map[string]string{}}
	f := p.Funcs[i.Proc]
	locks := i.Locks
	for _, param := range f.Params {
		if param.Mutex {
			r.means[param.Name], locks = u.Mutexes[locks[0]].Name, locks[1:]
		}
	}
	r.block(f.Body)
	return append(r.steps, step{})
}

// add adds a step and returns its number.
func (r *reading) add(s step) int {
	r.steps = append(r.steps, s)
	return len(r.steps) - 1
}

// goesTo sets where control goes after a step.
func (r *reading) goesTo(at int, next ...int) {
	slices.Sort(next)
	r.steps[at].next = slices.Compact(next)
}

func (r *reading) block(body []api.Stmt) {
	for _, s := range body {
		switch s.Kind {
		case api.StmtReturn:
			r.add(step{})
		case api.StmtIf:
			branch := r.add(step{})
			r.block(s.Then)
			otherwise := len(r.steps)
			if len(s.Else) > 0 {
				jump := r.add(step{})
				otherwise = len(r.steps)
				r.block(s.Else)
				r.goesTo(jump, len(r.steps))
			}
			r.goesTo(branch, branch+1, otherwise)
		case api.StmtWhile:
			branch := r.add(step{})
			r.block(s.Then)
			r.goesTo(r.add(step{}), branch)
			r.goesTo(branch, len(r.steps), branch+1)
		default:
			r.goesTo(r.add(r.simple(s)), len(r.steps))
		}
	}
}

// simple returns what a statement without blocks changes.
func (r *reading) simple(s api.Stmt) step {
	mutex, is := r.means[s.Ref.Name]
	if !is {
		mutex = s.Ref.Name
	}
	switch s.Kind {
	case api.StmtLock:
		return step{mutex: mutex, change: 1}
	case api.StmtUnlock:
		return step{mutex: mutex, change: -1}
	}
	return step{}
}

// follows returns the relation by which a depth is followed by one that exceeds it by a number, if both are from 0 to limit.
func follows(limit, change int) []int {
	var r []int
	for d := range limit + 1 {
		set := 0
		for e := range limit + 1 {
			if e-d == change {
				set += 1 << e
			}
		}
		r = append(r, set)
	}
	return r
}

// capOf returns the greatest depth of a mutex.
func capOf(m api.Mutex) int {
	if m.Size == 0 && !m.Reentrant {
		return 1
	}
	return 8
}

// seen counts what programs have.
type seen struct {
	programs, instances   int
	locks, unlocks, keeps int // pairs of an instruction and a mutex
	ways                  [3]int
	backward, equal       int // instructions after which control goes back, and branches with one way
}

// changes returns the mutexes whose depths an instruction changes.
func changes(u api.Unit, i api.Instance, pc int) []int {
	var l []int
	for m, mutex := range u.Mutexes {
		if flow.Change(u, i, pc, m) != 0 || !slices.Equal(flow.Relation(u, i, pc, m), follows(capOf(mutex), 0)) {
			l = append(l, m)
		}
	}
	return l
}

// compare tests all functions for a program.
func compare(t *testing.T, text string, count *seen) {
	t.Helper()
	p, u := mustParse(t, text), mustLower(t, text)
	c, errno := instance.Close(u)
	if errno != api.OK {
		return
	}
	count.programs++
	for _, i := range c.Instances {
		count.instances++
		steps := stepsOf(p, u, i)
		if len(steps) != len(u.Procs[i.Proc].Code) {
			t.Fatalf("%s: %d instructions; want %d", text, len(u.Procs[i.Proc].Code), len(steps))
		}
		for pc, s := range steps {
			compareStep(t, text, u, i, pc, s, count)
		}
	}
}

// compareStep tests all functions for an instruction.
func compareStep(t *testing.T, text string, u api.Unit, i api.Instance, pc int, s step, count *seen) {
	t.Helper()
	next := flow.Next(u, i, pc)
	if !slices.Equal(next, s.next) {
		t.Fatalf("%s: Next(%s, %d) = %v; want %v", text, name(u, i), pc, next, s.next)
	}
	count.ways[len(next)]++
	for n, to := range next {
		if to <= pc {
			count.backward++
		}
		if n > 0 && to <= next[n-1] {
			t.Fatalf("%s: Next(%s, %d) = %v", text, name(u, i), pc, next)
		}
	}
	if u.Procs[i.Proc].Code[pc].Op == api.InstrBranch && len(next) == 1 {
		count.equal++
	}
	if l := changes(u, i, pc); len(l) > 1 { // P15.3
		t.Fatalf("%s: instruction %d of %s changes %v", text, pc, name(u, i), l)
	}
	for m, mutex := range u.Mutexes {
		want := 0
		if mutex.Name == s.mutex {
			want = s.change
		}
		if n := flow.Change(u, i, pc, m); n != want {
			t.Fatalf("%s: Change(%s, %d, %s) = %d; want %d", text, name(u, i), pc, mutex.Name, n, want)
		}
		if r := flow.Relation(u, i, pc, m); !slices.Equal(r, follows(capOf(mutex), want)) {
			t.Fatalf("%s: Relation(%s, %d, %s) = %v; want that of %d", text, name(u, i), pc, mutex.Name, r, want)
		}
		*[]*int{&count.unlocks, &count.keeps, &count.locks}[want+1]++
	}
}
