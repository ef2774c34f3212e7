package value_test

import (
	"runtime/debug"
	"slices"
	"testing"

	"lockorder/api"
	"lockorder/lower"
	"lockorder/parse"
	"lockorder/value"
)

const least, most = -1 << 63, 1<<63 - 1

// The names of the variables that the texts of the tests may use, in the order of their numbers.
const declared = "var x; var y; var z; mutex a; rmutex r; mutex c[3]; mutex d[64]; mutex e[1]; func main() { var i = 0; var j = 0; var k = 0; "

// code returns the instruction of a statement that stands behind declared.
func code(t *testing.T, statement string) api.Instr {
	t.Helper()
	p, n, errno := parse.Program([]byte(declared + statement + " }"))
	if errno != api.OK {
		t.Fatalf("Program(%.80q) = %d, %d", statement, n, errno)
	}
	u, f, n, errno := lower.Lower(p)
	if errno != api.OK {
		t.Fatalf("Lower(%.80q) = %d, %d, %d", statement, f, n, errno)
	}
	return u.Procs[0].Code[3]
}

// mutexes returns the mutexes of declared.
func mutexes() []api.Mutex {
	return []api.Mutex{{Name: "a"}, {Name: "r", Reentrant: true}, {Name: "c", Size: 3}, {Name: "d", Size: 64}, {Name: "e", Size: 1}}
}

// expectValue tests the value and the fault of the expression of a text, where x and y are -2^63 and -1, z is 10, and i, j, k are 3, 0 and 2^63 - 1.
func expectValue(t *testing.T, s string, want, fault int) {
	t.Helper()
	n, f := value.Eval(code(t, "x = "+s+";").Expr, []int{least, -1, 10}, []int{3, 0, most})
	if n != want || f != fault {
		t.Errorf("the value of %q is %d, %d; want %d, %d", s, n, f, want, fault)
	}
}

// expectValues tests the values of expressions that have one.
func expectValues(t *testing.T, values map[string]int) {
	t.Helper()
	for s, want := range values {
		expectValue(t, s, want, 0)
	}
}

// expectFaults tests that expressions divide by 0.
func expectFaults(t *testing.T, texts ...string) {
	t.Helper()
	for _, s := range texts {
		expectValue(t, s, 0, api.FaultZero)
	}
}

func TestExamples(t *testing.T) { // those of the chapter
	expectValues(t, map[string]int{"7 / -2": -3, "7 % -2": 1, "1 || 1 / 0": 1})
}

func TestOperands(t *testing.T) { // P7.1: numbers and variables
	expectValues(t, map[string]int{"0": 0, "7": 7, "9223372036854775807": most, "x": least, "y": -1, "z": 10, "i": 3, "j": 0, "k": most, "(z)": 10})
	for _, n := range []int{least, -5, 0, 5, most} {
		if got, fault := value.Eval(api.Expr{Op: api.OpNumber, Num: n}, []int{1}, []int{2}); got != n || fault != 0 {
			t.Errorf("the value of the number %d is %d, %d", n, got, fault)
		}
	}
}

func TestVariables(t *testing.T) { // P7.1: each variable of two lists of several lengths
	for size := range 40 {
		globals, locals := make([]int, size), make([]int, size+1)
		for i := range locals {
			locals[i] = 100 + i
		}
		for i := range globals {
			globals[i] = -100 - i
		}
		for i := range locals {
			if got, fault := value.Eval(api.Expr{Op: api.OpLocal, Num: i}, globals, locals); got != 100+i || fault != 0 {
				t.Errorf("the value of the local variable %d is %d, %d", i, got, fault)
			}
		}
		for i := range globals {
			if got, fault := value.Eval(api.Expr{Op: api.OpGlobal, Num: i}, globals, locals); got != -100-i || fault != 0 {
				t.Errorf("the value of the global variable %d is %d, %d", i, got, fault)
			}
		}
	}
}

func TestArithmetic(t *testing.T) { // P7.1
	expectValues(t, map[string]int{
		"2 + 3": 5, "2 - 3": -1, "2 * -3": -6, "-i": -3, "--i": 3, "-0": 0, "i * z + y": 29, "z - i - y": 8, "z - (i - y)": 6, "2 + 3 * 4": 14, "i * i * i": 27,
	})
}

func TestWrapping(t *testing.T) { // P7.1: numbers of 64 bits
	expectValues(t, map[string]int{
		"k + 1": least, "x - 1": most, "x + x": 0, "k + k": -2, "k * 2": -2, "k * k": 1, "x * x": 0, "x * y": least, "-x": least, "-k": least + 1, "y - k": least, "0 - x": least, "x - k": 1, "k - x": -1,
		"4294967296 * 4294967296": 0, "4294967296 * 2147483648": least, "3037000500 * 3037000500": -9223372036709301616, "x + y": most, "x * i": least,
	})
}

func TestDivision(t *testing.T) { // P7.1: the quotient, and the remainder with the sign of the dividend
	for _, d := range []struct{ a, b, quotient, remainder int }{
		{7, 2, 3, 1}, {-7, 2, -3, -1}, {7, -2, -3, 1}, {-7, -2, 3, -1}, {6, 3, 2, 0}, {-6, 3, -2, 0}, {2, 7, 0, 2}, {-2, 7, 0, -2}, {0, 5, 0, 0}, {0, -5, 0, 0},
		{least, -1, least, 0}, {least, 1, least, 0}, {least, least, 1, 0}, {most, -1, -most, 0}, {most, least, 0, most}, {least, most, -1, -1}, {least, 2, least / 2, 0}, {most, 10, 922337203685477580, 7}, {least, 10, -922337203685477580, -8},
	} {
		for op, want := range map[int]int{api.OpDivide: d.quotient, api.OpRemainder: d.remainder} {
			if got, fault := value.Eval(binary(op, global(0), local(0)), []int{d.a}, []int{d.b}); got != want || fault != 0 {
				t.Errorf("the value of the operator %d for %d and %d is %d, %d; want %d", op, d.a, d.b, got, fault, want)
			}
		}
	}
	expectFaults(t, "7 / 0", "7 % 0", "0 / 0", "0 % 0", "x / j", "x % j", "y / (i - 3)", "k % -0")
}

func TestComparisons(t *testing.T) { // P7.1: those of signed numbers, with 1 and 0
	for i, a := range []int{least, -1, 0, 1, most} {
		for j, b := range []int{least, -1, 0, 1, most} {
			for op, want := range map[int]bool{api.OpLess: i < j, api.OpLessEqual: i <= j, api.OpGreater: i > j, api.OpGreaterEqual: i >= j, api.OpEqual: i == j, api.OpNotEqual: i != j} {
				if got, fault := value.Eval(binary(op, local(1), local(0)), nil, []int{b, a}); got != one(want) || fault != 0 {
					t.Errorf("the value of the operator %d for %d and %d is %d, %d; want %v", op, a, b, got, fault, want)
				}
			}
		}
	}
	expectValues(t, map[string]int{"3 == 3 == 3": 0, "3 == 3 == 1": 1, "3 > 2 > 1": 0, "1 < 2 < 3": 1})
}

func TestLogic(t *testing.T) { // P7.1: every number other than 0 counts as true
	l := []int{least, -2, -1, 0, 1, 2, 256, 1 << 32, most}
	for _, a := range l {
		for _, b := range l {
			for op, want := range map[int]bool{api.OpNot: a == 0, api.OpAnd: a != 0 && b != 0, api.OpOr: a != 0 || b != 0} {
				e := api.Expr{Op: op, Args: []api.Expr{local(0), local(1)}}
				if op == api.OpNot {
					e = unary(op, local(0))
				}
				if got, fault := value.Eval(e, nil, []int{a, b}); got != one(want) || fault != 0 {
					t.Errorf("the value of the operator %d for %d and %d is %d, %d; want %v", op, a, b, got, fault, want)
				}
			}
		}
	}
	expectValues(t, map[string]int{"!!7": 1, "!0 + !0": 2, "5 && 7": 1, "0 || -2": 1, "1 && 0 || 1": 1, "(2 || 3) + (4 && 5)": 2})
}

func TestOrder(t *testing.T) { // P7.1: what is evaluated, and what is not
	expectValues(t, map[string]int{
		"0 && 1 / 0": 0, "1 || 1 % 0": 1, "y || 1 / 0": 1, "x || 1 / 0": 1, "j && (i || 1 / 0)": 0, "0 && 1 / 0 || 7": 1, "(1 || 1 / 0) && 4": 1, "0 && (1 / 0 && 0)": 0, "1 || (0 || 1 / 0)": 1, "0 || 1 || 1 / 0": 1, "1 && 0 && 1 / 0": 0,
		"5 + (0 && 1 / 0)": 5, "(0 && 1 / 0) + 5": 5, "!(j && 1 / j)": 1, "-(i || 1 / j)": -1, "0 == (0 && 1 / 0)": 1, "8 / (1 || 1 / 0)": 8,
	})
	expectFaults(t,
		"1 && 1 / 0", "0 || 1 / 0", "1 / 0 && 0", "1 / 0 || 1", "y && 1 / 0", "0 && 1 / 0 || 1 / 0", "(1 || 1 / 0) && 1 % 0", "1 && 1 && 1 / 0", "0 || 0 || 1 / 0",
		"0 * (1 / 0)", "(1 / 0) * 0", "-(1 / 0)", "!(1 % 0)", "1 / 0 == 1 / 0", "1 + 1 / 0", "1 / 0 + 1", "1 / (1 / 0)", "1 / 0 / 1", "(1 / 0) % 0", "8 / (0 && 1 / 0)", "1 / 0 < 2", "2 != 1 % 0")
}

// expectIndex tests the element that a reference names, with the variables of expectValue.
func expectIndex(t *testing.T, reference string, want, fault int) {
	t.Helper()
	for _, word := range []string{"lock ", "unlock "} {
		n, f := value.Index(code(t, word+reference+";").Place, mutexes(), []int{least, -1, 10}, []int{3, 0, most})
		if n != want || f != fault {
			t.Errorf("the element of %q is %d, %d; want %d, %d", reference, n, f, want, fault)
		}
	}
}

func TestIndex(t *testing.T) { // P7.2
	for s, want := range map[string]int{"a": 0, "r": 0, "c[0]": 0, "c[1]": 1, "c[2]": 2, "c[j]": 0, "c[i - 1]": 2, "c[y + 2]": 1, "c[7 / 3]": 2, "d[0]": 0, "d[63]": 63, "d[z]": 10, "d[i]": 3, "e[0]": 0, "e[j]": 0, "c[1 || 1 / 0]": 1} {
		expectIndex(t, s, want, 0)
	}
	for _, s := range []string{"c[3]", "c[-1]", "c[x]", "c[y]", "c[k]", "c[i]", "d[64]", "d[-1]", "d[k]", "e[1]", "e[-1]", "e[x]", "c[4294967296]", "c[x + x - 1]"} {
		expectIndex(t, s, 0, api.FaultIndex)
	}
	for _, s := range []string{"c[1 / 0]", "c[1 / j]", "d[z % j]", "e[0 * (1 / 0)]", "c[-1 + 1 / 0]"} {
		expectIndex(t, s, 0, api.FaultZero)
	}
}

func TestScalarWithAt(t *testing.T) { // P7.2: 0 if the mutex is a scalar, whatever At is
	for i, m := range mutexes() {
		for _, e := range []api.Expr{number(0), number(1), number(-1), binary(api.OpDivide, number(1), number(0))} {
			if n, fault := value.Index(api.Place{Index: i, At: []api.Expr{e}}, mutexes(), nil, nil); m.Size == 0 && (n != 0 || fault != 0) {
				t.Errorf("the element of %v at %v is %d, %d", m, e, n, fault)
			}
		}
	}
}

func TestIndexSizes(t *testing.T) { // P7.2: every element of every size
	for size := 1; size <= api.MaxElements; size++ {
		l := []api.Mutex{{Name: "s"}, {Name: "a", Size: size}, {Name: "b", Size: 100}}
		for i := -2; i < size+3; i++ {
			n, fault := value.Index(api.Place{Index: 1, At: []api.Expr{global(0)}}, l, []int{i}, nil)
			wantN, want := i, 0
			if i < 0 || i >= size {
				wantN, want = 0, api.FaultIndex
			}
			if n != wantN || fault != want {
				t.Errorf("the element %d of %d is %d, %d", i, size, n, fault)
			}
		}
	}
}

func TestEmptyLists(t *testing.T) { // R5: nil and empty lists are the same
	e := api.Expr{Op: api.OpNumber, Num: 3, Args: []api.Expr{}}
	if n, fault := value.Eval(e, []int{}, []int{}); n != 3 || fault != 0 {
		t.Errorf("the value of 3 is %d, %d", n, fault)
	}
	if n, fault := value.Index(api.Place{Index: 1, At: []api.Expr{}}, mutexes(), []int{}, nil); n != 0 || fault != 0 {
		t.Errorf("the element of r is %d, %d", n, fault)
	}
}

func TestUnspecified(t *testing.T) { // R1: what the promises are not specified for
	for _, op := range slices.Concat([]int{least, most, 1 << 32}, upTo(-2, 25)) {
		for _, num := range []int{least, -1, 0, 1, 2, most} {
			for args := range 5 {
				e := api.Expr{Op: op, Num: num, Name: "x", Args: []api.Expr{{}, {Op: op, Num: num}, global(1), {Op: 99, Args: []api.Expr{global(0)}}}[:args]}
				for _, outer := range []api.Expr{e, {Op: op, Args: []api.Expr{e, e, e}}, binary(api.OpDivide, local(0), e), binary(api.OpAnd, e, e), unary(api.OpNot, e)} {
					for _, values := range [][]int{nil, {0}, {0, 1}, {1, 0}} {
						value.Eval(outer, values, nil)
						value.Eval(outer, nil, values)
						value.Index(api.Place{Index: num, At: []api.Expr{outer, e}}, mutexes(), values, values)
						value.Index(api.Place{Param: true, Index: op, At: []api.Expr{outer}}, mutexes(), values, nil)
						value.Index(api.Place{Index: num, At: []api.Expr{outer}}, []api.Mutex{{Size: -1}, {Size: least}, {Size: most}}, nil, values)
						value.Index(api.Place{Index: num}, nil, nil, nil)
						value.Index(api.Place{Index: 2}, mutexes(), nil, nil)
					}
				}
			}
		}
	}
}

// upTo returns the numbers from first to last.
func upTo(first, last int) []int {
	var l []int
	for i := first; i <= last; i++ {
		l = append(l, i)
	}
	return l
}

// TestDeep has expressions that are far deeper than the stack of calls may be.
func TestDeep(t *testing.T) { // R1, P7.1
	defer debug.SetMaxStack(debug.SetMaxStack(1 << 20))
	for _, wrap := range []func(e api.Expr) api.Expr{
		func(e api.Expr) api.Expr { return unary(api.OpNegate, e) },
		func(e api.Expr) api.Expr { return unary(api.OpNot, unary(api.OpNot, e)) },
		func(e api.Expr) api.Expr { return binary(api.OpMultiply, e, global(0)) },
		func(e api.Expr) api.Expr { return binary(api.OpSubtract, local(0), e) },
		func(e api.Expr) api.Expr { return binary(api.OpAnd, e, local(1)) },
		func(e api.Expr) api.Expr { return binary(api.OpOr, local(0), e) },
	} {
		e := local(1)
		for range 200000 {
			e = wrap(e)
		}
		if n, fault := value.Eval(e, []int{-1}, []int{0, 1}); n != 1 || fault != 0 {
			t.Errorf("the value is %d, %d; want 1", n, fault)
		}
		if n, fault := value.Index(api.Place{Index: 2, At: []api.Expr{e}}, mutexes(), []int{-1}, []int{0, 1}); n != 1 || fault != 0 {
			t.Errorf("the element is %d, %d; want 1", n, fault)
		}
	}
}
