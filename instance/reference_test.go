package instance_test

import (
	"slices"
	"strings"
	"testing"

	"lockorder/api"
	"lockorder/instance"
)

// site is what is expected of an instruction of an instance: the mutexes that it names, and the instance that it calls or starts, or an empty text.
type site struct {
	mutexes []string
	callee  string
	starts  bool
}

// source is a program as it is written, by the names of its functions.
type source map[string]api.Func

func sourceOf(p api.Program) source {
	functions := source{}
	for _, f := range p.Funcs {
		functions[f.Name] = f
	}
	return functions
}

// sites returns what is expected of all instructions of an instance, which is written like main or f(a,b).
func (l source) sites(i string) []site {
	name, rest, _ := strings.Cut(strings.TrimSuffix(i, ")"), "(")
	mutexes := strings.Split(rest, ",")
	means := map[string]string{}
	for _, p := range l[name].Params {
		if p.Mutex {
			means[p.Name], mutexes = mutexes[0], mutexes[1:]
		}
	}
	return append(l.block(l[name].Body, means), site{})
}

// block returns what is expected of the instructions of a list of statements, if the mutex parameters mean these mutexes.
func (l source) block(body []api.Stmt, means map[string]string) []site {
	var all []site
	mutex := func(r api.Ref) string {
		if m, is := means[r.Name]; is {
			return m
		}
		return r.Name
	}
	for _, s := range body {
		switch s.Kind {
		case api.StmtLock, api.StmtUnlock:
			all = append(all, site{mutexes: []string{mutex(s.Ref)}})
		case api.StmtCall, api.StmtGo:
			var mutexes []string
			for _, a := range s.Args {
				if a.Mutex {
					mutexes = append(mutexes, mutex(a.Ref))
				}
			}
			all = append(all, site{mutexes, s.Name + "(" + strings.Join(mutexes, ",") + ")", s.Kind == api.StmtGo})
		case api.StmtIf:
			all = append(append(all, site{}), l.block(s.Then, means)...)
			if len(s.Else) > 0 {
				all = append(append(all, site{}), l.block(s.Else, means)...)
			}
		case api.StmtWhile:
			all = append(append(append(all, site{}), l.block(s.Then, means)...), site{})
		default:
			all = append(all, site{})
		}
	}
	return all
}

// expected is the closure of a program, as it follows from its text.
type expected struct {
	instances    []string
	sites        [][]site
	calls        [][]int
	roots        []int
	instructions int
}

// closureOf returns the closure of a program, and false if it is too large; it is not searched any further then.
func closureOf(p api.Program) (expected, bool) {
	l := sourceOf(p)
	e := expected{instances: []string{"main()"}}
	starts := map[string]bool{"main()": true}
	for n := 0; n < len(e.instances) && n <= api.MaxInstances; n++ {
		sites := l.sites(e.instances[n])
		var calls []int
		for _, s := range sites {
			if s.callee != "" && !slices.Contains(e.instances, s.callee) {
				e.instances = append(e.instances, s.callee)
			}
			calls = append(calls, slices.Index(e.instances, s.callee))
			starts[s.callee] = starts[s.callee] || s.starts
		}
		e.sites, e.calls = append(e.sites, sites), append(e.calls, calls)
		e.instructions += len(sites)
	}
	for n, i := range e.instances {
		if starts[i] {
			e.roots = append(e.roots, n)
		}
	}
	return e, len(e.instances) <= api.MaxInstances && e.instructions <= api.MaxSites
}

// written returns an instance as it is written in expected.
func written(u api.Unit, i api.Instance) string { return strings.ReplaceAll(name(u, i), ", ", ",") }

// compare tests Close, Find and Sites for a program.
func compare(t *testing.T, text string, count *seen) {
	t.Helper()
	count.programs++
	u := mustLower(t, text)
	e, small := closureOf(mustParse(t, text))
	c, errno := instance.Close(u)
	if !small {
		if errno != api.ErrTooLarge || len(c.Instances)+len(c.Calls)+len(c.Roots) != 0 {
			t.Fatalf("%s: Close = %v, %d; want an error", text, c, errno)
		}
		count.tooLarge(e)
		return
	}
	if errno != api.OK || !slices.EqualFunc(c.Instances, e.instances, func(i api.Instance, s string) bool { return written(u, i) == s }) {
		t.Fatalf("%s: Close = %v, %d; want %v", text, c, errno, e.instances)
	}
	if !slices.EqualFunc(c.Calls, e.calls, slices.Equal[[]int]) || !slices.Equal(c.Roots, e.roots) {
		t.Fatalf("%s: Calls = %v, Roots = %v; want %v, %v", text, c.Calls, c.Roots, e.calls, e.roots)
	}
	if n := instance.Sites(u, c); n != e.instructions {
		t.Fatalf("%s: Sites = %d; want %d", text, n, e.instructions)
	}
	count.closure(e)
	for n, i := range c.Instances {
		if got := instance.Find(c, i); got != n {
			t.Fatalf("%s: Find(%v) = %d; want %d", text, i, got, n)
		}
		compareSites(t, text, u, i, e.sites[n])
	}
	compareOthers(t, text, u, c, e)
	consequence(t, text, u, c)
}

// compareSites tests Mutex and Callee for all instructions of an instance.
func compareSites(t *testing.T, text string, u api.Unit, i api.Instance, sites []site) {
	t.Helper()
	for pc := -2; pc < len(sites)+2; pc++ {
		callee, is := instance.Callee(u, i, pc)
		if pc < 0 || pc >= len(sites) || sites[pc].callee == "" {
			if is || callee.Proc != 0 || len(callee.Locks) != 0 {
				t.Fatalf("%s: Callee(%v, %d) = %v, %v", text, i, pc, callee, is)
			}
		} else if !is || written(u, callee) != sites[pc].callee {
			t.Fatalf("%s: Callee(%v, %d) = %v, %v; want %s", text, i, pc, callee, is, sites[pc].callee)
		}
	}
	for pc, instr := range u.Procs[i.Proc].Code {
		places := instr.Places
		if instr.Op == api.InstrLock || instr.Op == api.InstrUnlock {
			places = []api.Place{instr.Place}
		}
		for n, p := range places {
			if got := u.Mutexes[instance.Mutex(i, p)].Name; got != sites[pc].mutexes[n] {
				t.Fatalf("%s: Mutex(%v, %v) = %s; want %s", text, i, p, got, sites[pc].mutexes[n])
			}
		}
	}
}

// compareOthers tests Find for instances that differ a little from those of a closure.
func compareOthers(t *testing.T, text string, u api.Unit, c api.Closure, e expected) {
	t.Helper()
	look := func(i api.Instance) {
		want := -1
		if i.Proc >= 0 && i.Proc < len(u.Procs) && !slices.ContainsFunc(i.Locks, func(m int) bool { return m < 0 || m >= len(u.Mutexes) }) {
			want = slices.Index(e.instances, written(u, i))
		}
		if got := instance.Find(c, i); got != want {
			t.Fatalf("%s: Find(%v) = %d; want %d", text, i, got, want)
		}
	}
	for _, i := range c.Instances {
		look(api.Instance{Proc: i.Proc - 1, Locks: i.Locks})
		look(api.Instance{Proc: i.Proc + 1, Locks: i.Locks})
		look(api.Instance{Proc: i.Proc, Locks: append(slices.Clone(i.Locks), 0)})
		for n := range i.Locks {
			look(api.Instance{Proc: i.Proc, Locks: i.Locks[:n]})
			for _, m := range []int{-1, 0, 1, i.Locks[n] + 1} {
				locks := slices.Clone(i.Locks)
				locks[n] = m
				look(api.Instance{Proc: i.Proc, Locks: locks})
			}
		}
	}
}

// consequence tests P13.4, and what P13.2 says about the numbers in Calls and Roots.
func consequence(t *testing.T, text string, u api.Unit, c api.Closure) {
	t.Helper()
	found := map[int]bool{0: true}
	starts := map[int]bool{0: true}
	for n, i := range c.Instances {
		if !found[n] {
			t.Fatalf("%s: no earlier instance calls or starts %v", text, i)
		}
		if len(c.Calls[n]) != len(u.Procs[i.Proc].Code) || len(i.Locks) != u.Procs[i.Proc].Locks {
			t.Fatalf("%s: %v has the calls %v", text, i, c.Calls[n])
		}
		for pc, number := range c.Calls[n] {
			callee, is := instance.Callee(u, i, pc)
			if is != (number >= 0) || is && instance.Find(c, callee) != number {
				t.Fatalf("%s: instruction %d of %v calls %d", text, pc, i, number)
			}
			found[number] = true
			if is && u.Procs[i.Proc].Code[pc].Op == api.InstrGo {
				starts[number] = true
			}
		}
	}
	if !slices.IsSorted(c.Roots) || len(c.Roots) != len(starts) || slices.ContainsFunc(c.Roots, func(n int) bool { return !starts[n] }) {
		t.Fatalf("%s: Roots = %v; want %v", text, c.Roots, starts)
	}
}
