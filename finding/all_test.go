package finding_test

import (
	"fmt"
	"math/rand"
	"reflect"
	"slices"
	"strings"
	"testing"

	"lockorder/api"
	"lockorder/finding"
	"lockorder/instance"
)

func TestAllSmallPrograms(t *testing.T) { // P23.1 to P23.4
	statements := []string{"", "lock m;", "unlock m;", "lock k;", "lock b; unlock b;", "return;", "g(mutex m, mutex k);", "f(mutex k, mutex m);", "go g(mutex k, mutex m);",
		"if 1 { lock m; }", "lock r; lock m;", "if 1 { return; } else { unlock k; }", "while 1 { lock k; }", "while 1 { g(mutex m, mutex m); unlock m; }"}
	mains := []string{"f(mutex a, mutex r);", "f(mutex r, mutex c[0]); g(mutex c[1], mutex a);", "go f(mutex b, mutex a); lock a; f(mutex c[0], mutex c[1]); lock r; f(mutex a, mutex b);"}
	ends := []string{"", "lock m;", "if 1 { lock k; unlock m; }", "lock k; if 1 { f(mutex k, mutex b); } unlock k;"}
	var count seen
	for x, one := range statements {
		for y, two := range statements {
			for _, begin := range mains {
				mustRead(t, "mutex a; rmutex r; mutex c[2]; mutex b; func main() { "+begin+" } func f(mutex m, mutex k) { "+one+two+" } func g(mutex m, mutex k) { "+ends[(x+y)%len(ends)]+" }").compare(t, &count)
			}
		}
	}
	if count.programs != 14*14*3 || count.instances < 2200 || slices.Min(count.kinds[1:]) < 105 || count.clean < 85 || count.several < 80 || count.gated < 38 || count.large < 30 || count.called < 900 {
		t.Errorf("%+v", count)
	}
}

// maker makes programs by chance.
type maker struct {
	r     *rand.Rand
	names []string // of the mutexes, as they are written in the current function
	loose int      // how often of 100 times something else is done than to lock a mutex and unlock it again
}

// name returns a mutex.
func (m maker) name() string { return m.names[m.r.Intn(len(m.names))] }

// call returns the call or the start of a function.
func (m maker) call() string {
	switch m.r.Intn(4) {
	case 0:
		return "g(mutex " + m.name() + "); "
	case 1:
		return "h(); "
	}
	return "f(mutex " + m.name() + ", mutex " + m.name() + "); "
}

// statements returns a list of statements.
func (m maker) statements(nested int) string {
	s := ""
	for range m.r.Intn(4 - nested) {
		name := m.name()
		if m.r.Intn(100) < m.loose {
			s += []string{"lock " + name + "; ", "unlock " + name + "; ", "if x { return; } ", "while x { x = 0; lock " + name + "; } "}[m.r.Intn(4)]
		}
		switch k := m.r.Intn(14); {
		case k < 7:
			s += "lock " + name + "; " + m.statements(nested+1) + "unlock " + name + "; "
		case k == 7:
			s += "if x { " + m.statements(nested+1) + "} else { " + m.statements(nested+1) + "} "
		case k == 8:
			s += "while x { x = 0; " + m.statements(nested+1) + "} "
		case k < 11:
			s += m.call()
		case k == 11:
			s += "go " + m.call()
		default:
			s += "x = 1 - x; "
		}
	}
	return s
}

// guarded returns a list of statements in which perhaps a mutex is held that seldom belongs to others.
func (m maker) guarded() string {
	gate := []string{"p", "q", "p"}[m.r.Intn(3)]
	if m.r.Intn(4) == 0 {
		return m.statements(0)
	}
	return "lock " + gate + "; " + m.statements(0) + m.statements(0) + "unlock " + gate + "; "
}

// randomProgram makes the text of a program, in which main begins with some starts.
func randomProgram(r *rand.Rand, loose int) string {
	names := []string{"a", "b", "r", "c[x]", "c[1]", "d[0]"}
	r.Shuffle(len(names), func(i, j int) { names[i], names[j] = names[j], names[i] })
	names = names[:2+r.Intn(5)]
	m := maker{r, names, loose}
	main := ""
	for range r.Intn(3) {
		main += "go " + m.call()
	}
	main += m.guarded()
	h := m.guarded()
	m.names = append([]string{"m", "m", "m"}, names...)
	g := m.guarded()
	m.names = append([]string{"m", "m", "k", "k"}, names...)
	return "var x = 1; mutex p; mutex a; mutex b; rmutex r; mutex c[2]; mutex d[3]; rmutex q; func main() { " + main + "} func f(mutex m, mutex k) { " + m.statements(0) + m.statements(0) + "} func g(mutex m) { " + g + "} func h() { " + h + "} "
}

func TestRandomPrograms(t *testing.T) { // P23.1 to P23.4
	r := rand.New(rand.NewSource(1))
	var count seen
	for range 1500 {
		mustRead(t, randomProgram(r, 10*r.Intn(3))).compare(t, &count)
	}
	if count.instances < 6000 || slices.Min(count.kinds[1:]) < 550 || count.clean < 250 || count.several < 320 || count.gated < 38 || count.large < 270 || count.called < 3500 {
		t.Errorf("%+v", count)
	}
}

// large returns a program whose closure has nearly as many instances and instructions as one may have, and all mutexes that a program may have.
func large() string {
	const part = "while 1 { if 1 { lock m; OTHER(mutex n, mutex m, mutex k, mutex l, mutex p); } if 1 { unlock n; } if 1 { OTHER(mutex n, mutex k, mutex l, mutex p, mutex m); unlock m; } } "
	text := "rmutex a; rmutex b; mutex c[2]; mutex d; mutex e; func main() { lock a0; lock a1; "
	for n := range 7 {
		text = fmt.Sprintf("%s mutex a%d; ", []string{"", "r"}[n%2], n) + text
	}
	text = strings.ReplaceAll(text, "r mutex", "rmutex") + "if 1 { lock a2; lock a3; } go f(mutex a, mutex b, mutex c[0], mutex d, mutex e); go f(mutex b, mutex a, mutex c[0], mutex d, mutex e); } "
	for _, names := range [][2]string{{"f", "g"}, {"g", "f"}} {
		text += "func " + names[0] + "(mutex m, mutex n, mutex k, mutex l, mutex p) { " + strings.Repeat(strings.ReplaceAll(part, "OTHER", names[1]), 3) + "} "
	}
	return text
}

func TestLarge(t *testing.T) { // P23.1 to P23.4
	s := mustRead(t, large())
	if n := len(s.closure.Instances); n < 240 || n > api.MaxInstances || len(s.unit.Mutexes) != api.MaxMutexes {
		t.Fatalf("%d instances, %d mutexes", n, len(s.unit.Mutexes))
	}
	if sites := instance.Sites(s.unit, s.closure); sites < 7000 {
		t.Errorf("%d instructions", sites)
	}
	var count seen
	s.compare(t, &count)
	if slices.Min(count.kinds[1:]) < 1 || count.kinds[api.FindUnheld] < 1200 || count.kinds[api.FindSelf] < 250 || count.kinds[api.FindOver] < 350 || count.large != 1 {
		t.Errorf("%+v", count)
	}
}

// randomFinding makes a finding whose numbers are few, so that many of them are equal.
func randomFinding(r *rand.Rand) api.Finding {
	number := func() int {
		if r.Intn(10) == 0 {
			return []int{least, -1, 256, 1 << 32, most}[r.Intn(5)]
		}
		return r.Intn(2)
	}
	f := api.Finding{Kind: number(), Instance: number(), PC: number(), Lock: number()}
	for range r.Intn(4) {
		f.Locks = append(f.Locks, number())
	}
	return f
}

func TestRandomLess(t *testing.T) { // P23.4
	r := rand.New(rand.NewSource(2))
	lessByLocks, equal := 0, 0
	for range 200000 {
		a, b := randomFinding(r), randomFinding(r)
		want := slices.Compare(asList(a), asList(b))
		if got := finding.Less(a, b); got != (want < 0) {
			t.Fatalf("Less(%v, %v) = %t", a, b, got)
		}
		if want == 0 {
			equal++
		} else if slices.Equal(asList(a)[:4], asList(b)[:4]) {
			lessByLocks++
		}
	}
	if lessByLocks < 4000 || equal < 450 {
		t.Errorf("%d pairs are decided by their lists, %d are equal", lessByLocks, equal)
	}
}

// arguments are those of one call of each function.
type arguments struct {
	Unit    api.Unit
	Closure api.Closure
	A, B    api.Finding
}

// results are what the functions return.
type results struct {
	Leaks, Sites, Cycles, All []api.Finding
	Less                      bool
}

// call calls all functions.
func (a arguments) call() results {
	return results{
		Leaks:  finding.Leaks(a.Unit, a.Closure),
		Sites:  finding.Sites(a.Unit, a.Closure),
		Cycles: finding.Cycles(a.Unit, a.Closure),
		All:    finding.All(a.Unit, a.Closure),
		Less:   finding.Less(a.A, a.B),
	}
}

// visitItems calls see for every item of every slice in v, as far as the capacities reach, and clears what it has seen if clear is true.
func visitItems(v reflect.Value, see func(item reflect.Value), clear bool) {
	switch v.Kind() {
	case reflect.Struct:
		for i := range v.NumField() {
			visitItems(v.Field(i), see, clear)
		}
	case reflect.Slice:
		whole := v.Slice(0, v.Cap())
		for i := range whole.Len() {
			see(whole.Index(i))
			visitItems(whole.Index(i), see, clear)
			if clear {
				whole.Index(i).SetZero()
			}
		}
	}
}

// checkMemory tests R2 and R3: nothing is changed, kept or shared, and the results are the same again.
func (a arguments) checkMemory(t *testing.T) results {
	t.Helper()
	// A list with room behind it would show what is appended to it.
	n, k := len(a.A.Locks), len(a.Closure.Roots)
	a.A.Locks = append(slices.Clone(a.A.Locks), -5)[:n]
	a.Closure.Roots = append(slices.Clone(a.Closure.Roots), -5)[:k]
	text := func() string { return fmt.Sprint(a, a.A.Locks[:n+1], a.Closure.Roots[:k+1]) }
	before := text()
	first, second := a.call(), a.call()
	want := fmt.Sprint(second)
	taken := map[uintptr]bool{}
	argument := func(item reflect.Value) { taken[item.Addr().Pointer()] = true }
	result := func(item reflect.Value) {
		if taken[item.Addr().Pointer()] {
			t.Fatalf("a result for %.2000s shares memory", before)
		}
		taken[item.Addr().Pointer()] = true
	}
	visitItems(reflect.ValueOf(&a).Elem(), argument, false)
	visitItems(reflect.ValueOf(&first).Elem(), result, true)
	again := a.call()
	if fmt.Sprint(second) != want || fmt.Sprint(again) != want || text() != before {
		t.Fatalf("the arguments %.2000s have changed, or the results are no longer %s", before, want)
	}
	return second
}

func TestMemory(t *testing.T) { // R2, R3
	r := rand.New(rand.NewSource(3))
	leaks, sites, cycles := 0, 0, 0
	for range 200 {
		s := mustRead(t, randomProgram(r, 20))
		got := arguments{s.unit, s.closure, randomFinding(r), randomFinding(r)}.checkMemory(t)
		leaks += min(len(got.Leaks)/2, 1)
		sites += min(len(got.Sites)/2, 1)
		cycles += min(len(got.Cycles), 1)
	}
	if leaks < 65 || sites < 110 || cycles < 105 {
		t.Errorf("only %d results have several leaks, %d several findings at instructions, and %d cycles", leaks, sites, cycles)
	}
}

func TestUnspecified(t *testing.T) { // R1, R2, R6: units that are no code of a program, and closures that are none of theirs
	numbers := []int{least, -1, 0, 1, 2, 1 << 40, most}
	var code []api.Instr
	for op := -1; op <= 9; op++ {
		for _, n := range numbers {
			code = append(code, api.Instr{Op: op, Target: n, Place: api.Place{Param: n&1 == 1, Index: n}})
		}
	}
	var uses []api.Instr
	for _, n := range numbers {
		for _, op := range []int{api.InstrLock, api.InstrLock, api.InstrUnlock, api.InstrUnlock, api.InstrUnlock, api.InstrLock} {
			uses = append(uses, api.Instr{Op: op, Place: api.Place{Index: n}})
		}
	}
	end := api.Instr{Op: api.InstrReturn}
	procs := []api.Proc{{Code: code}, {Code: append(uses, end)}, {Locks: most, Code: []api.Instr{uses[12], uses[18], uses[24], end}}, {}, {Code: code[35:]}}
	mutexes := []api.Mutex{{}, {Size: least, Reentrant: true}, {Size: most}, {Size: least}, {Size: 2, Reentrant: true}}
	var instances []api.Instance
	for _, n := range numbers {
		instances = append(instances, api.Instance{Proc: n}, api.Instance{Proc: n, Locks: numbers})
	}
	calls := [][]int{numbers, nil, slices.Repeat(numbers, 20), slices.Repeat([]int{0}, 70), slices.Repeat([]int{4, 6, 8}, 40), slices.Repeat(numbers, 9), {2}}
	found := map[string]int{}
	for _, u := range []api.Unit{{}, {Procs: procs}, {Mutexes: mutexes}, {Procs: procs, Mutexes: mutexes, Main: least}, {Procs: procs[2:], Mutexes: slices.Repeat(mutexes[1:], 30)}} {
		for _, c := range []api.Closure{{}, {Calls: calls, Roots: numbers}, {Instances: instances}, {Instances: instances, Roots: numbers}, {Instances: instances[4:], Roots: slices.Repeat(numbers, 9)}, {Instances: instances, Calls: calls, Roots: []int{14, 4, 5, 6, 13, 7, 8, 4}}} {
			a := arguments{u, c, api.Finding{Kind: most, PC: least, Locks: numbers[3:]}, api.Finding{Kind: least, Locks: numbers}}
			got := a.checkMemory(t)
			found["leaks"] += min(len(got.Leaks), 1)
			found["sites"] += min(len(got.Sites), 1)
			found["cycles"] += min(len(got.Cycles), 1)
		}
	}
	if found["leaks"] < 1 || found["sites"] < 1 || found["cycles"] < 1 {
		t.Errorf("%v", found)
	}
}

func FuzzAll(f *testing.F) { // P23.1 to P23.4
	f.Add("mutex a; mutex b; func f() { lock b; lock a; unlock a; } func main() { go f(); lock a; lock b; unlock b; unlock b; lock a; }")
	f.Add("rmutex r; mutex c[2]; func f(mutex m) { lock m; if 1 { f(mutex m); } } func main() { f(mutex r); go f(mutex c[1]); }")
	f.Add(randomProgram(rand.New(rand.NewSource(5)), 20))
	f.Fuzz(func(t *testing.T, source string) {
		s, is := read(source)
		if !is || len(s.closure.Instances) > 20 {
			return
		}
		var count seen
		s.compare(t, &count)
	})
}
