package machine_test

import (
	"fmt"
	"maps"
	"math/big"
	"math/rand"
	"slices"
	"strconv"
	"strings"

	"lockorder/api"
)

// place is an element: a mutex, and the index of the element in an array.
type place struct{ mutex, index int }

// activation is a frame of the reference, with its variables by number.
type activation struct {
	proc, pc int
	ints     map[int]int
	locks    []place
}

// world is a state of the reference: for each place it has the threads that have locked it and not unlocked it yet, and for each thread its activations.
type world struct {
	unit    api.Unit
	globals map[int]int
	held    map[place][]int
	threads [][]activation
	fault   int
}

// numbered returns a map from the indexes of a list to its numbers.
func numbered(l []int) map[int]int {
	return maps.Collect(slices.All(l))
}

// newWorld is New of P9.1.
func newWorld(u api.Unit) *world {
	w := &world{unit: u, globals: numbered(u.Globals), held: map[place][]int{}}
	w.threads = [][]activation{{w.activate(u.Main, nil, nil)}}
	return w
}

func (w *world) activate(proc int, values []int, locks []place) activation {
	a := activation{proc: proc, ints: numbered(values), locks: locks}
	for i := len(values); i < w.unit.Procs[proc].Locals; i++ {
		a.ints[i] = 0
	}
	return a
}

// copied returns a world that does not change with w.
func (w *world) copied() *world {
	c := &world{unit: w.unit, globals: maps.Clone(w.globals), held: map[place][]int{}, fault: w.fault}
	for p, threads := range w.held {
		c.held[p] = slices.Clone(threads)
	}
	for _, thread := range w.threads {
		thread = slices.Clone(thread)
		for i := range thread {
			thread[i].ints = maps.Clone(thread[i].ints)
		}
		c.threads = append(c.threads, thread)
	}
	return c
}

// places returns all elements in the order of their numbers.
func (w *world) places() []place {
	var all []place
	for m, mutex := range w.unit.Mutexes {
		all = append(all, place{mutex: m})
		for i := 1; i < mutex.Size; i++ {
			all = append(all, place{m, i})
		}
	}
	return all
}

// list returns the numbers of a map from indexes.
func list(numbers map[int]int) []int {
	l := make([]int, len(numbers))
	for i := range l {
		l[i] = numbers[i]
	}
	return l
}

// state returns the state that w stands for.
func (w *world) state() api.State {
	s := api.State{Globals: list(w.globals), Fault: w.fault}
	all := w.places()
	for _, p := range all {
		if l := w.held[p]; len(l) > 0 {
			s.Table = append(s.Table, api.Hold{Owner: l[0] + 1, Depth: len(l)})
		} else {
			s.Table = append(s.Table, api.Hold{})
		}
	}
	for _, thread := range w.threads {
		var frames []api.Frame
		for _, a := range thread {
			f := api.Frame{Proc: a.proc, PC: a.pc, Ints: list(a.ints)}
			for _, p := range a.locks {
				f.Locks = append(f.Locks, slices.Index(all, p))
			}
			frames = append(frames, f)
		}
		s.Threads = append(s.Threads, api.Thread{Frames: frames})
	}
	return s
}

// fault is what the reference panics with.
type fault int

// waiting is what the reference panics with if a lock is not possible.
type waiting struct{}

// attempt calls f and returns the fault it has, and false if it waits.
func attempt(f func()) (n int, ok bool) {
	defer func() {
		switch x := recover().(type) {
		case nil:
			ok = true
		case fault:
			n, ok = int(x), true
		case waiting:
		default:
			panic(x)
		}
	}()
	f()
	return 0, true
}

// current returns the instruction of a thread, or nil if there is none.
func (w *world) current(t int) *api.Instr {
	if w.fault != 0 || t < 0 || t >= len(w.threads) || len(w.threads[t]) == 0 {
		return nil
	}
	top := w.top(t)
	return &w.unit.Procs[top.proc].Code[top.pc]
}

func (w *world) top(t int) *activation { return &w.threads[t][len(w.threads[t])-1] }

// element is Element of P9.2.
func (w *world) element(t int, p api.Place) (n, f int) {
	if w.current(t) == nil {
		return 0, 0
	}
	f, _ = attempt(func() { n = slices.Index(w.places(), w.resolve(t, p)) })
	return n, f
}

// step is Step of P9.3: it changes w, or returns false.
func (w *world) step(t int) bool {
	i := w.current(t)
	if i == nil {
		return false
	}
	n, ok := attempt(func() { w.carryOut(t, *i) })
	if n != 0 {
		w.fault = n
	}
	return ok
}

// carryOut changes w only after all that may panic.
func (w *world) carryOut(t int, i api.Instr) {
	top := w.top(t)
	switch i.Op {
	case api.InstrSet:
		variables := top.ints
		if i.Global {
			variables = w.globals
		}
		variables[i.Target] = w.value(t, i.Expr)
	case api.InstrCall, api.InstrGo:
		w.begin(t, i)
		return
	case api.InstrLock:
		p := w.resolve(t, i.Place)
		if l := w.held[p]; len(l) > 0 && (l[0] != t || !w.unit.Mutexes[p.mutex].Reentrant) {
			panic(waiting{})
		}
		w.held[p] = append(w.held[p], t)
	case api.InstrUnlock:
		p := w.resolve(t, i.Place)
		if !slices.Contains(w.held[p], t) {
			panic(fault(api.FaultUnlock))
		}
		w.held[p] = w.held[p][1:]
	case api.InstrBranch:
		if w.value(t, i.Expr) == 0 {
			top.pc = i.Target - 1
		}
	case api.InstrJump:
		top.pc = i.Target - 1
	case api.InstrReturn:
		w.threads[t] = w.threads[t][:len(w.threads[t])-1]
	}
	top.pc++
}

// begin carries out a call or the start of a thread.
func (w *world) begin(t int, i api.Instr) {
	var values []int
	var locks []place
	for _, e := range i.Ints {
		values = append(values, w.value(t, e))
	}
	for _, p := range i.Places {
		locks = append(locks, w.resolve(t, p))
	}
	a := w.activate(i.Target, values, locks)
	if i.Op == api.InstrGo && len(w.threads) == 32 {
		panic(fault(api.FaultThreads))
	}
	w.top(t).pc++
	if i.Op == api.InstrGo {
		w.threads = append(w.threads, []activation{a})
	} else {
		w.threads[t] = append(w.threads[t], a)
	}
}

// resolve returns the element that a place names.
func (w *world) resolve(t int, p api.Place) place {
	if p.Param {
		return w.top(t).locks[p.Index]
	}
	if w.unit.Mutexes[p.Index].Size == 0 {
		return place{mutex: p.Index}
	}
	n := w.value(t, p.At[0])
	if n < 0 || n >= w.unit.Mutexes[p.Index].Size {
		panic(fault(api.FaultIndex))
	}
	return place{p.Index, n}
}

// value is P7.1 for a thread.
func (w *world) value(t int, e api.Expr) int {
	switch e.Op {
	case api.OpNumber:
		return e.Num
	case api.OpLocal:
		return w.top(t).ints[e.Num]
	case api.OpGlobal:
		return w.globals[e.Num]
	}
	left := w.value(t, e.Args[0])
	switch {
	case e.Op == api.OpNegate:
		return -left
	case e.Op == api.OpNot:
		return one(left == 0)
	case e.Op == api.OpAnd && left == 0:
		return 0
	case e.Op == api.OpOr && left != 0:
		return 1
	}
	return binary(e.Op, left, w.value(t, e.Args[1]))
}

func one(b bool) int {
	if b {
		return 1
	}
	return 0
}

// binary returns the value of a binary operator.
func binary(op, x, y int) int {
	a, b, c := big.NewInt(int64(x)), big.NewInt(int64(y)), new(big.Int)
	if y == 0 && (op == api.OpDivide || op == api.OpRemainder) {
		panic(fault(api.FaultZero))
	}
	switch op {
	case api.OpMultiply:
		c.Mul(a, b)
	case api.OpDivide:
		c.Quo(a, b)
	case api.OpRemainder:
		c.Rem(a, b)
	case api.OpAdd:
		c.Add(a, b)
	case api.OpSubtract:
		c.Sub(a, b)
	case api.OpAnd, api.OpOr:
		return one(y != 0)
	default:
		return one(map[int]bool{api.OpLess: x < y, api.OpLessEqual: x <= y, api.OpGreater: x > y, api.OpGreaterEqual: x >= y, api.OpEqual: x == y, api.OpNotEqual: x != y}[op])
	}
	low := new(big.Int).And(c, new(big.Int).SetUint64(1<<64-1)) // of the two's complement
	return int(low.Uint64())
}

// text returns the fields of a state, the same for nil and empty lists.
func text(s api.State) string { return fmt.Sprint(s) }

// maker makes the texts of programs by chance that run for some steps before they have a fault.
type maker struct {
	r       *rand.Rand
	ints    []string
	mutexes []string
	count   int // of the local variables of all functions
	left    int // the number of statements that may still be made
}

func (m *maker) pick(l ...string) string { return l[m.r.Intn(len(l))] }

func (m *maker) expression() string {
	switch n := m.r.Intn(20); {
	case n < 5:
		return "(" + m.expression() + m.pick(strings.Fields("* + - < <= > >= == != && ||")...) + m.expression() + ")"
	case n < 6:
		return "(" + m.expression() + m.pick("/", "%") + m.pick("2", "-3", m.expression()) + ")"
	case n < 7:
		return m.pick("-", "!") + m.expression()
	case n < 13:
		return m.pick(m.ints...)
	}
	return strconv.Itoa(m.r.Intn(5))
}

func (m *maker) reference() string {
	s := m.pick(m.mutexes...)
	if strings.HasSuffix(s, "[") {
		if m.r.Intn(8) == 0 {
			return s + m.expression() + "]"
		}
		if s == "e[" {
			return s + "0]"
		}
		return s + m.pick("0", "1", "2", "x * x % 3") + "]"
	}
	return s
}

func (m *maker) call() string {
	switch m.r.Intn(4) {
	case 0:
		return "f(" + m.expression() + ",mutex " + m.reference() + ");"
	case 1:
		return "g(mutex " + m.reference() + "," + m.expression() + ",mutex " + m.reference() + "," + m.expression() + ");"
	case 2:
		return "main();"
	}
	return "h();"
}

func (m *maker) block(depth int) string {
	s, ints := "{", len(m.ints)
	for m.left > 0 && m.r.Intn(5) > 0 {
		m.left--
		s += m.statement(depth)
	}
	m.ints = m.ints[:ints]
	return s + "}"
}

func (m *maker) statement(depth int) string {
	switch m.r.Intn(14) {
	case 0, 1:
		name, value := "i"+strconv.Itoa(m.count), m.expression()
		m.count++
		m.ints = append(m.ints, name)
		return "var " + name + "=" + value + ";"
	case 2, 3:
		return m.pick(m.ints...) + "=" + m.expression() + ";"
	case 4, 5:
		return m.call()
	case 6:
		return "go " + m.call()
	case 7:
		return "lock " + m.reference() + ";"
	case 8:
		return "if 1 > " + m.pick(m.ints...) + " {unlock " + m.reference() + ";}"
	case 9:
		if depth > 0 {
			return "if " + m.expression() + m.block(depth-1) + m.pick("", "else"+m.block(depth-1))
		}
	case 10:
		if depth > 0 {
			return "while " + m.expression() + m.block(depth-1)
		}
	case 11:
		return "if " + m.expression() + "{return;}"
	}
	lock, block := m.reference(), ""
	if depth > 0 {
		inner := m.block(depth - 1)
		block = inner[1 : len(inner)-1]
	}
	return "lock " + lock + ";" + block + "unlock " + lock + ";"
}

// function makes a function with these parameters behind what is visible everywhere.
func (m *maker) function(head string, ints, mutexes []string) string {
	m.left = 12
	m.ints = append([]string{"x", "y"}, ints...)
	m.mutexes = append([]string{"a", "r", "c[", "q", "e["}, mutexes...)
	return "func " + head + m.block(3)
}

// program makes a program. Some programs start threads without end.
func (m *maker) program() string {
	m.count = 0
	l := []string{
		"var x;", "var y = " + strconv.Itoa(m.r.Intn(3)) + ";", "mutex a;", "rmutex r;", "mutex c[3];", "rmutex q;", "mutex e[1];",
		m.function("f(n,mutex m)", []string{"n"}, []string{"m"}),
		m.function("g(mutex m,n,mutex l,k)", []string{"n", "k"}, []string{"m", "l"}),
		m.function("h()", nil, nil),
		m.function("main()", nil, nil),
	}
	if m.r.Intn(10) == 0 {
		l[10] = "func main(){while 1{x=x+1;go h();}}"
	}
	m.r.Shuffle(len(l), func(i, j int) { l[i], l[j] = l[j], l[i] })
	return strings.Join(l, "")
}
