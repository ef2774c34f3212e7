package value_test

import (
	"math/rand"
	"reflect"
	"slices"
	"testing"

	"lockorder/api"
	"lockorder/lower"
	"lockorder/parse"
	"lockorder/value"
)

// compare tests Eval and Index of a resolved expression against the reference. It reports whether the expression has a fault.
func compare(t *testing.T, e api.Expr, globals, locals []int) bool {
	t.Helper()
	want, ok := reference(e, globals, locals)
	fault := 0
	if !ok {
		fault = api.FaultZero
	}
	if n, f := value.Eval(e, globals, locals); n != want || f != fault {
		t.Fatalf("the value of %v for %d and %d is %d, %d; want %d, %d", e, globals, locals, n, f, want, fault)
	}
	for i, m := range mutexes() {
		element, f := value.Index(api.Place{Index: i, At: []api.Expr{e}[:min(m.Size, 1)]}, mutexes(), globals, locals)
		switch {
		case m.Size == 0 && element == 0 && f == 0:
		case m.Size > 0 && fault == 0 && want >= 0 && want < m.Size && element == want && f == 0:
		case m.Size > 0 && fault == 0 && (want < 0 || want >= m.Size) && element == 0 && f == api.FaultIndex:
		case m.Size > 0 && fault != 0 && element == 0 && f == fault:
		default:
			t.Fatalf("the element of the mutex %d for %v, %d and %d is %d, %d", i, e, globals, locals, element, f)
		}
	}
	return !ok
}

func TestReference(t *testing.T) { // the reference itself
	globals, locals := []int{least, -1}, []int{7, -2, 0}
	for want, e := range map[int]api.Expr{
		-3: binary(api.OpDivide, local(0), local(1)), 1: binary(api.OpRemainder, local(0), local(1)), least: binary(api.OpDivide, global(0), global(1)), most: binary(api.OpSubtract, global(0), number(1)), 0: binary(api.OpAdd, global(0), global(0)), -14: binary(api.OpMultiply, local(0), local(1)),
	} {
		if got, ok := reference(e, globals, locals); got != want || !ok {
			t.Errorf("reference(%v) = %d, %v; want %d", e, got, ok, want)
		}
	}
	if n, ok := reference(binary(api.OpRemainder, local(0), local(2)), globals, locals); n != 0 || ok {
		t.Errorf("reference of a division by 0 = %d, %v", n, ok)
	}
}

func TestAllOperators(t *testing.T) { // P7.1: each operator for all pairs of many numbers
	var l []int
	for shift := range 64 {
		for n := -1; n <= 1; n++ {
			l = append(l, 1<<shift+n, -1<<shift+n)
		}
	}
	slices.Sort(l)
	l = append(slices.Compact(l), 10, 12, -10, -12, 3037000500, -3037000500)
	for _, a := range l {
		for op := api.OpNegate; op <= api.OpNot; op++ {
			compare(t, unary(op, global(0)), []int{a}, nil)
		}
	}
	for op := api.OpMultiply; op <= api.OpOr; op++ {
		for _, a := range l {
			for _, b := range l {
				e := binary(op, global(0), local(0))
				want, ok := reference(e, []int{a}, []int{b})
				if n, fault := value.Eval(e, []int{a}, []int{b}); n != want || (fault == 0) != ok {
					t.Fatalf("the value of the operator %d for %d and %d is %d, %d; want %d", op, a, b, n, fault, want)
				}
			}
		}
	}
}

// larger returns the expressions of l, and all with one operator and Args of l.
func larger(l []api.Expr) []api.Expr {
	all := slices.Clone(l)
	for op := api.OpNegate; op <= api.OpOr; op++ {
		for _, x := range l {
			if op <= api.OpNot {
				all = append(all, unary(op, x))
				continue
			}
			for _, y := range l {
				all = append(all, binary(op, x, y))
			}
		}
	}
	return all
}

func TestAllSmallExpressions(t *testing.T) { // P7.1, P7.2: all with up to two levels of operators
	small := larger([]api.Expr{number(2), global(0), local(0)})
	faults := 0
	for _, values := range [][2]int{{0, 1}, {-1, 0}, {least, -1}} {
		for _, e := range larger(small) {
			want, ok := reference(e, values[:1], values[1:])
			n, fault := value.Eval(e, values[:1], values[1:])
			if n != want || fault != api.FaultZero*one(!ok) {
				t.Fatalf("the value of %v for %d is %d, %d; want %d, %v", e, values, n, fault, want, ok)
			}
			faults += one(!ok)
		}
	}
	if faults < 1000 {
		t.Errorf("only %d faults", faults)
	}
}

// values returns n numbers by chance.
func values(r *rand.Rand, n int) []int {
	l := make([]int, n)
	for i := range l {
		l[i] = chance(r)
	}
	return l
}

func TestRandomExpressions(t *testing.T) { // P7.1, P7.2
	r := rand.New(rand.NewSource(1))
	faults := 0
	for range 30000 {
		globals, locals := values(r, r.Intn(4)), values(r, r.Intn(4))
		if compare(t, expression(r, r.Intn(20), len(globals), len(locals)), globals, locals) {
			faults++
		}
	}
	if faults < 1000 || faults > 20000 {
		t.Errorf("%d expressions have a fault", faults)
	}
}

// occurring puts the numbers of the variables with this Op that occur in e into seen.
func occurring(e api.Expr, op int, seen map[int]bool) {
	if e.Op == op {
		seen[e.Num] = true
	}
	for _, arg := range e.Args {
		occurring(arg, op, seen)
	}
}

// others returns values with other numbers for the variables with this Op that do not occur in e, without those behind the last one that occurs or with further ones.
func others(r *rand.Rand, e api.Expr, op int, l []int) []int {
	seen, last := map[int]bool{}, 0
	occurring(e, op, seen)
	changed := slices.Clone(l)
	for i := range changed {
		if seen[i] {
			last = i + 1
		} else {
			changed[i] = chance(r)
		}
	}
	if r.Intn(2) == 0 {
		return changed[:last:last]
	}
	return append(changed, chance(r), chance(r))
}

func TestOtherVariables(t *testing.T) { // P7.3
	r := rand.New(rand.NewSource(2))
	for range 20000 {
		globals, locals := values(r, 5), values(r, 5)
		e := expression(r, r.Intn(8), len(globals), len(locals))
		n, fault := value.Eval(e, globals, locals)
		otherGlobals, otherLocals := others(r, e, api.OpGlobal, globals), others(r, e, api.OpLocal, locals)
		if got, f := value.Eval(e, otherGlobals, otherLocals); got != n || f != fault {
			t.Fatalf("the value of %v is %d, %d for %d and %d, and %d, %d for %d and %d", e, n, fault, globals, locals, got, f, otherGlobals, otherLocals)
		}
	}
}

// clone returns a copy of e that shares no memory with it.
func clone(e api.Expr) api.Expr {
	e.Args = slices.Clone(e.Args)
	for i := range e.Args {
		e.Args[i] = clone(e.Args[i])
	}
	return e
}

func TestMemory(t *testing.T) { // R2, R3: nothing is changed or kept, and the result is the same again
	r := rand.New(rand.NewSource(3))
	for range 5000 {
		globals, locals, l := values(r, 4), values(r, 4), mutexes()
		e := expression(r, r.Intn(12), 3, 3)
		p := api.Place{Index: 3, At: []api.Expr{e}}
		copies := []any{clone(e), slices.Clone(globals), slices.Clone(locals), mutexes(), api.Place{Index: 3, At: []api.Expr{clone(e)}}}
		// What is behind the end of the lists belongs to the caller too.
		n, fault := value.Eval(e, globals[:3], locals[:3])
		element, elementFault := value.Index(p, l[:4], globals[:3], locals[:3])
		if now := []any{e, globals, locals, l, p}; !reflect.DeepEqual(now, copies) {
			t.Fatalf("%v has become %v", copies, now)
		}
		if got, f := value.Eval(e, globals, locals); got != n || f != fault {
			t.Fatalf("the value of %v is %d, %d, and then %d, %d", e, n, fault, got, f)
		}
		if got, f := value.Index(p, l, globals, locals); got != element || f != elementFault {
			t.Fatalf("the element of %v is %d, %d, and then %d, %d", p, element, elementFault, got, f)
		}
	}
}

func FuzzEval(f *testing.F) { // P7.1, P7.2
	f.Add("x + 2 * -y < i % (z - k) && !j || 1 / j", 1, -2, 3)
	f.Add("1 && 0 || 9223372036854775807 / i != x", 0, most, least)
	f.Fuzz(func(t *testing.T, s string, a, b, c int) {
		p, _, errno := parse.Program([]byte(declared + "x = " + s + "; }"))
		if errno != api.OK {
			return
		}
		u, _, _, errno := lower.Lower(p)
		if errno != api.OK {
			return
		}
		for _, instr := range u.Procs[0].Code {
			if instr.Op == api.InstrSet && u.Procs[0].Locals == 3 {
				compare(t, instr.Expr, []int{a, b, c}, []int{c, a, b})
			}
		}
	})
}
