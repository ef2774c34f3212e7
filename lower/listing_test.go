package lower_test

import (
	"slices"
	"strconv"
	"strings"
	"testing"

	"lockorder/api"
	"lockorder/expr"
	"lockorder/lower"
	"lockorder/parse"
	"lockorder/print"
)

// mustParse returns the program of a text that is one.
func mustParse(t *testing.T, s string) api.Program {
	t.Helper()
	p, n, errno := parse.Program([]byte(s))
	if errno != api.OK {
		t.Fatalf("Program(%.80q) = %d, %d", s, n, errno)
	}
	return p
}

// mustLower returns the code of a program that is right.
func mustLower(t *testing.T, p api.Program) api.Unit {
	t.Helper()
	u, f, n, errno := lower.Lower(p)
	if f != 0 || n != 0 || errno != api.OK {
		t.Fatalf("Lower of %q = %d, %d, %d", print.Format(p), f, n, errno)
	}
	return u
}

// listing writes the code of a program, in which the procedures are called f0, f1, .., the mutexes m0, .., the mutex parameters p0, .., the global variables g0, .. and the local ones l0, ... Each instruction has the numbers of itself and of its statement before it.
func listing(t *testing.T, p api.Program) []string {
	t.Helper()
	u := mustLower(t, p)
	l := []string{"main f" + strconv.Itoa(u.Main)}
	for i, n := range u.Globals {
		l = append(l, "g"+strconv.Itoa(i)+" = "+strconv.Itoa(n))
	}
	for i, m := range u.Mutexes {
		l = append(l, "m"+strconv.Itoa(i)+" = "+m.Name+" "+strconv.FormatBool(m.Reentrant)+" "+strconv.Itoa(m.Size))
	}
	for i, x := range u.Procs {
		l = append(l, "f"+strconv.Itoa(i)+" = "+x.Name+" "+strconv.Itoa(x.Ints)+" "+strconv.Itoa(x.Locks)+" "+strconv.Itoa(x.Locals))
		sites := lower.Sites(p, i)
		if len(sites) != len(x.Code) {
			t.Fatalf("Sites of the function %d of %q = %v; want %d numbers", i, print.Format(p), sites, len(x.Code))
		}
		for pc, instr := range x.Code {
			l = append(l, strconv.Itoa(pc)+" "+strconv.Itoa(sites[pc])+" "+instruction(instr))
		}
	}
	return l
}

// instruction writes an instruction, with "wrong" if fields are set that it does not have.
func instruction(i api.Instr) string {
	text, rest := "", i
	rest.Op = 0
	switch i.Op {
	case api.InstrSet:
		text = map[bool]string{false: "l", true: "g"}[i.Global] + strconv.Itoa(i.Target) + " = " + expression(i.Expr)
		rest.Target, rest.Global, rest.Expr = 0, false, api.Expr{}
	case api.InstrCall, api.InstrGo:
		text = map[bool]string{false: "call", true: "go"}[i.Op == api.InstrGo] + " f" + strconv.Itoa(i.Target) + list(i.Ints, expression) + list(i.Places, place)
		rest.Target, rest.Ints, rest.Places = 0, nil, nil
	case api.InstrLock, api.InstrUnlock:
		text = map[bool]string{false: "lock ", true: "unlock "}[i.Op == api.InstrUnlock] + place(i.Place)
		rest.Place = api.Place{}
	case api.InstrBranch:
		text = "branch " + strconv.Itoa(i.Target) + " unless " + expression(i.Expr)
		rest.Target, rest.Expr = 0, api.Expr{}
	case api.InstrJump:
		text = "jump " + strconv.Itoa(i.Target)
		rest.Target = 0
	case api.InstrReturn:
		text = "return"
	}
	if text == "" || !isZero(rest) {
		text += " wrong"
	}
	return text
}

func isZero(i api.Instr) bool {
	return i.Op == 0 && i.Target == 0 && !i.Global && len(i.Ints) == 0 && len(i.Places) == 0 &&
		!i.Place.Param && i.Place.Index == 0 && len(i.Place.At) == 0 &&
		i.Expr.Op == 0 && i.Expr.Num == 0 && i.Expr.Name == "" && len(i.Expr.Args) == 0
}

func place(p api.Place) string {
	text := map[bool]string{false: "m", true: "p"}[p.Param] + strconv.Itoa(p.Index)
	for _, e := range p.At {
		text += "[" + expression(e) + "]"
	}
	return text
}

func list[T any](l []T, text func(T) string) string {
	var texts []string
	for _, x := range l {
		texts = append(texts, text(x))
	}
	return " (" + strings.Join(texts, ", ") + ")"
}

// expression writes a resolved expression. For one that has a name or a field that it should not have, it returns "wrong".
func expression(e api.Expr) string {
	named, ok := withNames(e)
	if text := expr.Format(named); ok && text != "" {
		return text
	}
	return "wrong"
}

// withNames returns e with names instead of numbers, and false if it has names itself.
func withNames(e api.Expr) (api.Expr, bool) {
	ok := e.Op != api.OpName
	if i := slices.Index([]int{api.OpLocal, api.OpGlobal}, e.Op); i >= 0 {
		return api.Expr{Op: api.OpName, Name: "lg"[i:i+1] + strconv.Itoa(e.Num), Args: e.Args}, e.Name == ""
	}
	args := make([]api.Expr, len(e.Args))
	for i, arg := range e.Args {
		named, right := withNames(arg)
		args[i] = named
		ok = ok && right
	}
	e.Args = args
	return e, ok
}
