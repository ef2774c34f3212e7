package model_test

import (
	"fmt"
	"slices"
	"strconv"
	"strings"
	"testing"

	"lockorder/api"
	"lockorder/instance"
	"lockorder/lower"
	"lockorder/model"
	"lockorder/parse"
	"lockorder/reach"
)

const least, most = -1 << 63, 1<<63 - 1

// subject is a program as code, with its closure.
type subject struct {
	source  string
	unit    api.Unit
	closure api.Closure
}

// read returns the subject with this source, and false if it is no program with a closure.
func read(source string) (subject, bool) {
	p, _, errno := parse.Program([]byte(source))
	if errno != api.OK {
		return subject{}, false
	}
	u, _, _, errno := lower.Lower(p)
	if errno != api.OK {
		return subject{}, false
	}
	c, errno := instance.Close(u)
	return subject{source, u, c}, errno == api.OK
}

// mustRead returns the subject with a source that is right.
func mustRead(t *testing.T, source string) subject {
	t.Helper()
	s, is := read(source)
	if !is {
		t.Fatalf("%.200q is no program with a closure", source)
	}
	return s
}

// name returns the instance n as text, such as f(a,b).
func (s subject) name(n int) string {
	i := s.closure.Instances[n]
	var l []string
	for _, m := range i.Locks {
		l = append(l, s.unit.Mutexes[m].Name)
	}
	return s.unit.Procs[i.Proc].Name + "(" + strings.Join(l, ",") + ")"
}

// text returns a configuration as text: the depth and the points, such as 1 main():3 f(a,b):0.
func (s subject) text(x api.Config) string {
	text := strconv.Itoa(x.Depth)
	for _, at := range x.Stack {
		text += " " + s.name(at.Instance) + ":" + strconv.Itoa(at.PC)
	}
	return text
}

func (s subject) texts(l []api.Config) []string {
	texts := []string{}
	for _, x := range l {
		texts = append(texts, s.text(x))
	}
	return texts
}

// config returns the configuration with this text.
func (s subject) config(t *testing.T, text string) api.Config {
	t.Helper()
	first, rest, _ := strings.Cut(text, " ")
	d, err := strconv.Atoi(first)
	x := api.Config{Depth: d}
	for _, point := range strings.Fields(rest) {
		name, number, _ := strings.Cut(point, ":")
		pc, bad := strconv.Atoi(number)
		i := 0
		for i < len(s.closure.Instances) && s.name(i) != name {
			i++
		}
		if bad != nil || i == len(s.closure.Instances) {
			t.Fatalf("%s: there is no point %s", s.source, point)
		}
		x.Stack = append(x.Stack, api.Point{Instance: i, PC: pc})
	}
	if err != nil {
		t.Fatal(err)
	}
	return x
}

func (s subject) steps(m int, x api.Config) []api.Config {
	return model.Steps(s.unit, s.closure, m, x)
}

func (s subject) visit(m, steps, most int) []api.Config {
	return model.Visit(s.unit, s.closure, m, steps, most)
}

func (s subject) covered(m int, x api.Config) bool {
	return model.Covered(s.unit, s.closure, m, x)
}

func TestExample(t *testing.T) { // the example of the chapter
	s := mustRead(t, "mutex a; func main() { }")
	x := model.Begin(s.closure, 0)
	if l := s.texts(s.steps(0, x)); s.text(x) != "0 main():0" || !slices.Equal(l, []string{"0"}) {
		t.Errorf("on %s follow %v", s.text(x), l)
	}
}

func TestBegin(t *testing.T) { // P18.1
	s := mustRead(t, "mutex a; mutex b; func f(mutex m) { } func g() { f(mutex a); } func main() { g(); go f(mutex b); lock a; go g(); }")
	for root, want := range map[int]string{0: "0 main():0", 1: "0 g():0", 2: "0 f(b):0"} {
		if got := s.text(model.Begin(s.closure, root)); got != want {
			t.Errorf("Begin(%d) = %s; want %s", root, got, want)
		}
	}
	if !slices.Equal(s.closure.Roots, []int{0, 1, 2}) {
		t.Errorf("the roots are %v", s.closure.Roots)
	}
}

// sample is a program that has each kind of instruction, with a plain mutex a, an array b, and a reentrant mutex c. Function f is called and started with each of them.
const sample = `mutex a; mutex b[2]; rmutex c; var x;
func f(n, mutex m, mutex k) { lock m; unlock k; return; lock a; f(1, mutex k, mutex m); g(mutex k); }
func g(mutex m) { if x { lock m; return; } else { unlock b[x]; } while x { go g(mutex m); } if x { } }
func main() { var y = 1; f(y, mutex a, mutex b[1]); f(y, mutex b[0], mutex c); go f(y, mutex c, mutex a); x = 2; g(mutex c); f(y, mutex a, mutex a); }`

func TestSteps(t *testing.T) { // P18.1
	s := mustRead(t, sample)
	for _, c := range []struct {
		mutex int
		from  string
		to    []string
	}{
		// A call, for every depth; what it does to its mutexes comes later.
		{0, "0 main():1", []string{"0 main():2 f(a,b):0"}},
		{0, "1 main():1", []string{"1 main():2 f(a,b):0"}},
		{1, "8 main():2", []string{"8 main():3 f(b,c):0"}},
		{2, "0 g(a):0 main():5", []string{"0 g(a):0 main():6 g(c):0"}},
		{0, "1 main():6", []string{"1 main():7 f(a,a):0"}},
		// A return, from what is called and from a root, for every depth.
		{0, "0 main():7", []string{"0"}},
		{2, "8 main():7", []string{"8"}},
		{0, "1 main():2 f(a,b):2", []string{"1 main():2"}},
		{0, "1 f(b,c):3 f(b,a):6", []string{"1 f(b,c):3"}},
		{1, "5 main():3 f(b,c):2 f(a,b):6", []string{"5 main():3 f(b,c):2"}},
		{2, "0 g(c):0 g(c):0 g(c):0 g(c):2", []string{"0 g(c):0 g(c):0 g(c):0"}},
		// A lock of the mutex, up to the cap.
		{0, "0 f(a,b):0", []string{"1 f(a,b):1"}},
		{0, "1 f(a,b):0", []string{}},
		{1, "0 main():3 f(b,c):0", []string{"1 main():3 f(b,c):1"}},
		{1, "7 main():3 f(b,c):0", []string{"8 main():3 f(b,c):1"}},
		{1, "8 main():3 f(b,c):0", []string{}},
		{2, "6 f(c,a):0", []string{"7 f(c,a):1"}},
		{2, "7 f(c,a):0", []string{"8 f(c,a):1"}},
		{2, "8 f(c,a):0", []string{}},
		{0, "0 f(c,a):3", []string{"1 f(c,a):4"}},
		// An unlock of the mutex, down to 0.
		{0, "1 f(c,a):1", []string{"0 f(c,a):2"}},
		{0, "0 f(c,a):1", []string{}},
		{1, "8 f(a,b):1", []string{"7 f(a,b):2"}},
		{1, "1 main():6 g(c):4", []string{"0 main():6 g(c):5"}},
		{1, "0 main():6 g(c):4", []string{}},
		{2, "2 f(b,c):1", []string{"1 f(b,c):2"}},
		{2, "0 f(b,c):1", []string{}},
		// A lock or an unlock of another mutex.
		{1, "8 f(a,b):0", []string{"8 f(a,b):1"}},
		{2, "0 f(a,b):1", []string{"0 f(a,b):2"}},
		{0, "1 main():6 g(c):1", []string{"1 main():6 g(c):2"}},
		{0, "0 main():6 g(c):4", []string{"0 main():6 g(c):5"}},
		// The same mutex for both parameters.
		{0, "0 f(a,a):0", []string{"1 f(a,a):1"}},
		{0, "1 f(a,a):1", []string{"0 f(a,a):2"}},
		// A variable, and the start of a thread that locks the mutex.
		{0, "1 main():0", []string{"1 main():1"}},
		{2, "8 main():3", []string{"8 main():4"}},
		{2, "8 main():4", []string{"8 main():5"}},
		{2, "0 f(a,c):6 g(c):6", []string{"0 f(a,c):6 g(c):7"}},
		// A branch to an instruction behind the next one or to the next one, and jumps forward and backward.
		{0, "1 g(a):0", []string{"1 g(a):1", "1 g(a):4"}},
		{2, "3 main():6 g(c):5", []string{"3 main():6 g(c):6", "3 main():6 g(c):8"}},
		{1, "2 g(c):8", []string{"2 g(c):9"}},
		{1, "2 g(b):3", []string{"2 g(b):5"}},
		{1, "2 f(c,a):1 g(a):7", []string{"2 f(c,a):1 g(a):5"}},
		// The end.
		{0, "0", []string{}},
		{0, "1", []string{}},
		{2, "8", []string{}},
	} {
		if got := s.texts(s.steps(c.mutex, s.config(t, c.from))); !slices.Equal(got, c.to) {
			t.Errorf("for mutex %d, on %s follow %q; want %q", c.mutex, c.from, got, c.to)
		}
		if follow := s.follow(c.mutex, c.from); !slices.Equal(follow, c.to) {
			t.Errorf("for mutex %d, the reference has %q after %s; want %q", c.mutex, follow, c.from, c.to)
		}
	}
}

func TestLongStack(t *testing.T) { // P18.1: the other points stay as they are
	s := mustRead(t, "mutex a; func f() { f(); } func main() { lock a; f(); }")
	for _, n := range []int{1, 2, 100, 100000} {
		callers := slices.Repeat([]api.Point{{PC: 2}, {Instance: 1, PC: 1}, {PC: 1}}, n)
		for _, c := range []struct {
			from, to []api.Point
			before   int
			after    int
		}{
			{[]api.Point{{PC: 0}}, []api.Point{{PC: 1}}, 0, 1},
			{[]api.Point{{PC: 1}}, []api.Point{{PC: 2}, {Instance: 1}}, 1, 1},
			{[]api.Point{{Instance: 1}}, []api.Point{{Instance: 1, PC: 1}, {Instance: 1}}, 0, 0},
			{[]api.Point{{Instance: 1, PC: 1}}, nil, 1, 1},
		} {
			got := s.steps(0, api.Config{Depth: c.before, Stack: slices.Concat(callers, c.from)})
			want := api.Config{Depth: c.after, Stack: slices.Concat(callers, c.to)}
			if len(got) != 1 || got[0].Depth != want.Depth || !slices.Equal(got[0].Stack, want.Stack) {
				t.Errorf("with %d points below %v, what follows is not %v", 3*n, c.from, c.to)
			}
		}
	}
}

const (
	endless  = "mutex a; func main() { main(); }" // a new configuration in each round
	climbing = "rmutex r; func main() { while 1 { lock r; } }"
	ended    = "mutex a; func main() { lock a; lock a; }"
	threads  = "mutex a; func f() { lock a; } func g() { } func main() { go g(); go f(); f(); }" // f is the instance 2
	growing  = "rmutex r; func main() { if 1 { lock r; } main(); unlock r; }"
)

func TestNumberOfConfigs(t *testing.T) { // P18.2
	for _, c := range []struct {
		source      string
		steps, most int
		n           int
	}{
		// The rounds, and the numbers to which steps is clamped.
		{endless, least, 500, 1},
		{endless, -1, 500, 1},
		{endless, 0, 500, 1},
		{endless, 1, 500, 2},
		{endless, 2, 500, 3},
		{endless, 99, 500, 100},
		{endless, 100, 500, 101},
		{endless, 101, 500, 101},
		{endless, most, 500, 101},
		// The numbers to which most is clamped.
		{endless, 100, least, 1},
		{endless, 100, -1, 1},
		{endless, 100, 0, 1},
		{endless, 100, 1, 1},
		{endless, 100, 2, 2},
		{endless, 100, 100, 100},
		{endless, 100, 101, 101},
		{endless, 100, 102, 101},
		{endless, 100, most, 101},
		{endless, least, least, 1},
		{endless, most, most, 101},
		{growing, 100, 499, 499},
		{growing, 100, 500, 500},
		{growing, 100, 501, 500},
		{growing, most, most, 500},
		// Nothing follows any more.
		{"mutex a; func main() { }", 0, 500, 1},
		{"mutex a; func main() { }", 1, 500, 2},
		{"mutex a; func main() { }", 100, 500, 2},
		{"mutex a; func main() { }", 100, 2, 2},
		{ended, 100, 500, 2},
		{"mutex a; func main() { unlock a; lock a; }", 100, 500, 1},
		{"mutex a; func main() { return; lock a; }", 100, 500, 2},
		// Configurations that have occurred before.
		{"mutex a; func main() { while 1 { } }", 100, 500, 4},
		{"mutex a; func main() { if 1 { } }", 100, 500, 3},
		{"mutex a; func main() { lock a; while 1 { unlock a; lock a; } }", 100, 500, 7},
		{climbing, 100, 500, 9*5 - 1},
		{climbing, 3, 500, 6},
		// All roots are there in round 0, and most may be less.
		{threads, 0, 500, 3},
		{threads, 0, 3, 3},
		{threads, 0, 2, 2},
		{threads, 0, 1, 1},
		{threads, -1, 0, 1},
		{threads, 1, 500, 6},
		{threads, 1, 4, 4},
	} {
		s := mustRead(t, c.source)
		if l := s.visit(0, c.steps, c.most); len(l) != c.n {
			t.Errorf("%s: within %d steps, of which there may be %d, there are %d; want %d", c.source, c.steps, c.most, len(l), c.n)
		}
	}
}

func TestOrder(t *testing.T) { // P18.2
	for _, c := range []struct {
		source string
		mutex  int
		want   []string
	}{
		{"mutex a; func main() { }", 0, []string{"0 main():0", "0"}},
		{ended, 0, []string{"0 main():0", "1 main():1"}},
		{threads, 0, []string{
			"0 main():0", "0 g():0", "0 f():0",
			"0 main():1", "0", "1 f():1",
			"0 main():2", "1",
			"0 main():3 f():0",
			"1 main():3 f():1",
			"1 main():3",
		}},
		// A round takes the configurations as they were found, each with all that follows on it.
		{"mutex a; var x; func main() { if x { if x { lock a; } } else { return; } lock a; }", 0, []string{
			"0 main():0",
			"0 main():1", "0 main():4",
			"0 main():2", "0 main():3", "0",
			"1 main():3", "0 main():5",
			"1 main():5", "1 main():6",
			"1",
		}},
		// What two branches lead to counts where it occurs first.
		{"mutex a; var x; func main() { if x { x = 1; x = 1; } else { x = 1; } lock a; }", 0, []string{
			"0 main():0",
			"0 main():1", "0 main():4",
			"0 main():2", "0 main():5",
			"0 main():3", "1 main():6",
			"1",
		}},
		{"mutex a; func f() { if 1 { f(); } } func main() { f(); }", 0, []string{
			"0 main():0", "0 main():1 f():0",
			"0 main():1 f():1", "0 main():1 f():2",
			"0 main():1 f():2 f():0", "0 main():1",
			"0 main():1 f():2 f():1", "0 main():1 f():2 f():2", "0",
		}},
	} {
		s := mustRead(t, c.source)
		all := s.texts(s.visit(c.mutex, 100, 500))
		if got := all[:min(len(all), len(c.want))]; !slices.Equal(got, c.want) {
			t.Errorf("%s: the configurations are %q; want %q", c.source, got, c.want)
		}
		for n := range all {
			if got := s.texts(s.visit(c.mutex, 100, n+1)); !slices.Equal(got, all[:n+1]) {
				t.Errorf("%s: the first %d configurations are %q; want %q", c.source, n+1, got, all[:n+1])
			}
		}
	}
}

func TestRecursion(t *testing.T) { // P18.2, P18.4: the cap ends what would be endless
	s := mustRead(t, "rmutex r; func up() { lock r; if 1 { up(); } unlock r; } func main() { up(); }")
	l := s.visit(0, 100, 500)
	// Eight activations of up begin, and the ninth one cannot lock.
	if n := 2 + 9 + 8 + 8 + 8 + 8 + 1; len(l) != n {
		t.Errorf("%d configurations; want %d", len(l), n)
	}
	deepest := "8 main():1" + strings.Repeat(" up():3", 8) + " up():0"
	if !slices.Contains(s.texts(l), deepest) || len(s.steps(0, s.config(t, deepest))) != 0 {
		t.Errorf("the configurations are %q", s.texts(l))
	}
}

func TestEndlessRecursion(t *testing.T) { // P18.4: all depths that package reach finds are on paths, though there is no end of these
	for _, source := range []string{
		endless, growing,
		"rmutex r; func f() { if 1 { unlock r; lock r; f(); unlock r; } } func main() { lock r; lock r; f(); unlock r; }",
		"rmutex r; func f() { if 1 { f(); lock r; } } func main() { f(); unlock r; }",
		"mutex c[2]; func f() { if 1 { f(); } else { lock c[0]; g(); } } func g() { lock c[1]; f(); unlock c[0]; } func main() { go f(); unlock c[0]; f(); }",
	} {
		s := mustRead(t, source)
		got, whole := s.pathSets(0, 12)
		want := reach.Before(s.unit, s.closure, 0)
		if !slices.EqualFunc(got, want, slices.Equal[[]int]) || whole {
			t.Errorf("%s: the depths on paths, which are all: %v, are %v; want %v", source, whole, got, want)
		}
	}
}

func TestSame(t *testing.T) { // P18.3
	p := func(numbers ...int) []api.Point {
		var l []api.Point
		for n := 0; n < len(numbers); n += 2 {
			l = append(l, api.Point{Instance: numbers[n], PC: numbers[n+1]})
		}
		return l
	}
	// All of them are different.
	l := []api.Config{
		{}, {Depth: 1}, {Depth: -1}, {Depth: 256}, {Depth: most}, {Depth: least},
		{Stack: p(0, 0)}, {Stack: p(0, 1)}, {Stack: p(1, 0)}, {Stack: p(1, 1)}, {Stack: p(-1, 0)}, {Stack: p(0, -1)}, {Stack: p(most, least)}, {Stack: p(least, most)},
		{Depth: 1, Stack: p(0, 0)}, {Depth: 1, Stack: p(0, 1)},
		{Stack: p(0, 0, 0, 0)}, {Stack: p(0, 0, 0, 1)}, {Stack: p(0, 1, 0, 0)}, {Stack: p(0, 0, 1, 0)}, {Stack: p(1, 0, 0, 0)},
		{Stack: p(1, 2, 3, 4)}, {Stack: p(3, 4, 1, 2)}, {Stack: p(1, 3, 2, 4)}, {Stack: p(1, 2)},
		{Stack: p(0, 0, 0, 0, 0, 0)}, {Stack: p(5, 0, 0, 0, 0, 0)}, {Depth: 8, Stack: p(0, 0, 0, 0, 0, 0)},
	}
	for i, x := range l {
		for j, y := range l {
			y.Stack = slices.Grow(slices.Clone(y.Stack), j%3)
			if same := model.Same(x, y); same != (i == j) {
				t.Errorf("Same(%v, %v) = %v", x, y, same)
			}
		}
	}
	if !model.Same(api.Config{Stack: []api.Point{}}, api.Config{}) || !model.Same(api.Config{Depth: 2}, api.Config{Depth: 2, Stack: []api.Point{}}) { // R5
		t.Error("a stack that is nil differs from an empty one")
	}
}

func TestCovered(t *testing.T) { // P18.3
	s := mustRead(t, "mutex a; mutex b[2]; rmutex r; func f(mutex m) { lock m; } func main() { if 1 { lock a; } lock b[0]; f(mutex b[1]); while 1 { lock r; } return; f(mutex a); }")
	for _, c := range []struct {
		mutex  int
		points string // behind the depth
		depths []int
	}{
		{0, "main():0", []int{0}},
		{0, "main():1", []int{0}},
		{0, "main():2", []int{0, 1}},
		{1, "main():2", []int{0}},
		{1, "main():3", []int{1}},
		{1, "main():4 f(b):0", []int{1}},
		{1, "f(b):1", []int{2}},
		{1, "main():4", []int{2}},
		{2, "main():4", []int{0, 1, 2, 3, 4, 5, 6, 7, 8}},
		{2, "main():6", []int{1, 2, 3, 4, 5, 6, 7, 8}},
		{2, "main():3", []int{0}},
		// What no thread carries out has no depths.
		{0, "main():8", nil},
		{0, "f(a):0", nil},
		{0, "main():9 f(a):1", nil},
		// Only the last point counts, whether a path leads to the others or not.
		{1, "main():8 f(a):1 f(b):0", []int{1}},
		{0, "main():8 main():2", []int{0, 1}},
		{0, "main():2 main():8", nil},
		// Without points, nothing counts.
		{0, "", []int{-3, -1, 0, 1, 2, 8, 9, 63, 64, 100}},
		{2, "", []int{-3, -1, 0, 1, 2, 8, 9, 63, 64, 100}},
	} {
		for _, d := range []int{-3, -1, 0, 1, 2, 3, 4, 5, 6, 7, 8, 9, 63, 64, 100} {
			want := slices.Contains(c.depths, d) || c.points == ""
			if got := s.covered(c.mutex, s.config(t, fmt.Sprint(d, " ", c.points))); got != want {
				t.Errorf("for mutex %d, %d %s is covered: %v", c.mutex, d, c.points, got)
			}
		}
	}
}
