package summary_test

import (
	"slices"
	"strconv"
	"strings"
	"testing"

	"lockorder/api"
	"lockorder/depth"
	"lockorder/instance"
	"lockorder/lower"
	"lockorder/parse"
	"lockorder/summary"
)

const least, most = -1 << 63, 1<<63 - 1

// subject is a program, with its code and its closure.
type subject struct {
	text    string
	program api.Program
	unit    api.Unit
	closure api.Closure
}

// read returns the subject with this text, and false if it is no program with a closure.
func read(text string) (subject, bool) {
	p, _, errno := parse.Program([]byte(text))
	if errno != api.OK {
		return subject{}, false
	}
	u, _, _, errno := lower.Lower(p)
	if errno != api.OK {
		return subject{}, false
	}
	c, errno := instance.Close(u)
	return subject{text, p, u, c}, errno == api.OK
}

// mustRead returns the subject with a text that is right.
func mustRead(t *testing.T, text string) subject {
	t.Helper()
	s, is := read(text)
	if !is {
		t.Fatalf("%.200q is no program with a closure", text)
	}
	return s
}

// name returns the instance n as text, such as f(a,b).
func (s subject) name(n int) string {
	i := s.closure.Instances[n]
	var l []string
	for _, m := range i.Locks {
		l = append(l, s.unit.Mutexes[m].Name)
	}
	return s.unit.Procs[i.Proc].Name + "(" + strings.Join(l, ",") + ")"
}

// named returns the number of the instance with this text.
func (s subject) named(t *testing.T, text string) int {
	t.Helper()
	for n := range s.closure.Instances {
		if s.name(n) == text {
			return n
		}
	}
	t.Fatalf("%s: there is no instance %s", s.text, text)
	return -1
}

// limit returns the greatest depth of the mutex m.
func (s subject) limit(m int) int {
	if x := s.unit.Mutexes[m]; x.Size == 0 && !x.Reentrant {
		return 1
	}
	return 8
}

func (s subject) of(m int) [][]int        { return summary.Of(s.unit, s.closure, m) }
func (s subject) rounds(m, n int) [][]int { return summary.Rounds(s.unit, s.closure, m, n) }
func (s subject) inner(m int, summaries [][]int, i int) [][]int {
	return summary.Inner(s.unit, s.closure, m, summaries, i)
}

func equal(a, b [][]int) bool { return slices.EqualFunc(a, b, slices.Equal[[]int]) }

// The relations of a mutex whose cap is 1, and of one whose cap is MaxDepth. By ups, any number of locks may follow a depth.
var (
	none1, same1, up1, down1, ups1 = []int{0, 0}, []int{1, 2}, []int{2, 0}, []int{0, 1}, []int{3, 2}
	none8                          = make([]int, 9)
	same8                          = []int{1, 2, 4, 8, 16, 32, 64, 128, 256}
	up8                            = []int{2, 4, 8, 16, 32, 64, 128, 256, 0}
	down8                          = []int{0, 1, 2, 4, 8, 16, 32, 64, 128}
	ups8                           = []int{511, 510, 508, 504, 496, 480, 448, 384, 256}
)

func TestExample(t *testing.T) { // the example of the chapter
	s := mustRead(t, "mutex a; rmutex b; mutex c[3]; func f(mutex m) { lock m; } func main() { f(mutex a); f(mutex b); f(mutex c[2]); }")
	for m, want := range [][]int{depth.Up(1), depth.Up(8), depth.Up(8)} {
		if l := s.of(m); !slices.Equal(l[1+m], want) {
			t.Errorf("Of(%d) = %v; want %v for %s", m, l, want, s.name(1+m))
		}
	}
}

func TestOf(t *testing.T) { // P16.2
	for _, c := range []struct {
		body         string // of f
		plain, other []int  // its summaries for a, which it gets as m, and for b, which it gets as k
	}{
		{"", same1, same8},
		{"x = 1; var y = x;", same1, same8},
		{"lock m; lock k;", up1, up8},
		{"lock a; lock b;", up1, up8},
		{"unlock m; unlock k;", down1, down8},
		// A lock at the cap and an unlock at the depth 0 are the ends of paths.
		{"lock m; unlock m; lock k; unlock k;", []int{1, 0}, []int{1, 2, 4, 8, 16, 32, 64, 128, 0}},
		{"unlock m; lock m; unlock k; lock k;", []int{0, 2}, []int{0, 2, 4, 8, 16, 32, 64, 128, 256}},
		{"lock m; lock m; lock k; lock k;", none1, []int{4, 8, 16, 32, 64, 128, 256, 0, 0}},
		{"return; lock m; lock k;", same1, same8},
		{"lock m; return; unlock m; lock k;", up1, same8},
		// What all returns end with is the exit, and the value of a condition does not matter.
		{"if 0 { return; } lock m; lock k;", ups1, []int{3, 6, 12, 24, 48, 96, 192, 384, 256}},
		{"if 0 { lock m; lock k; return; } else { return; }", ups1, []int{3, 6, 12, 24, 48, 96, 192, 384, 256}},
		{"if 0 { unlock m; lock k; } else { lock m; unlock k; }", []int{2, 1}, []int{2, 5, 10, 20, 40, 80, 160, 320, 128}},
		{"if 0 { return; } return; lock m;", same1, same8},
		{"while 0 { }", same1, same8},
		{"while 1 { }", same1, same8},
		{"while 1 { lock m; lock k; }", ups1, ups8},
		{"while 1 { unlock m; unlock k; }", []int{1, 3}, []int{1, 3, 7, 15, 31, 63, 127, 255, 511}},
		{"while 1 { while 1 { lock m; lock k; } if 1 { unlock m; } }", []int{3, 3}, ups8},
		{"lock m; while 1 { lock k; return; } unlock m;", []int{3, 0}, []int{3, 6, 12, 24, 48, 96, 192, 384, 256}},
		// A thread that is started has depths of its own.
		{"go up(mutex m); go up(mutex k);", same1, same8},
		{"go f(mutex m, mutex k);", same1, same8},
		{"up(mutex m); up(mutex k);", up1, up8},
		{"up(mutex k); up(mutex k);", same1, []int{4, 8, 16, 32, 64, 128, 256, 0, 0}},
		{"up(mutex m); unlock m; lock k; up(mutex k); unlock k;", []int{1, 0}, []int{2, 4, 8, 16, 32, 64, 128, 0, 0}},
		// An instance that does not return has no pairs, and neither has one that must call it.
		{"f(mutex m, mutex k);", none1, none8},
		{"lock m; main(); unlock m;", none1, none8},
		{"while 1 { f(mutex m, mutex k); }", same1, same8},
		{"if 1 { f(mutex m, mutex k); }", same1, same8},
		{"if 1 { f(mutex m, mutex k); lock m; lock k; }", ups1, ups8},
		{"if 1 { lock m; lock k; f(mutex m, mutex k); }", ups1, ups8},
		{"if 1 { lock m; f(mutex m, mutex k); unlock m; unlock k; }", []int{1, 2}, []int{1, 3, 7, 15, 31, 63, 127, 255, 511}},
		{"if 1 { unlock k; f(mutex m, mutex k); f(mutex m, mutex k); }", same1, []int{1, 3, 7, 15, 31, 63, 127, 255, 511}},
	} {
		s := mustRead(t, "var x; mutex a; rmutex b; func up(mutex n) { lock n; } func main() { f(mutex a, mutex b); } func f(mutex m, mutex k) { "+c.body+" }")
		f := s.named(t, "f(a,b)")
		if l := s.of(0); len(l) != len(s.closure.Instances) || !slices.Equal(l[f], c.plain) {
			t.Errorf("%s: Of(a) = %v; want %v for f", c.body, l, c.plain)
		}
		if l := s.of(1); len(l) != len(s.closure.Instances) || !slices.Equal(l[f], c.other) {
			t.Errorf("%s: Of(b) = %v; want %v for f", c.body, l, c.other)
		}
	}
}

func TestOfArray(t *testing.T) { // P16.2: an element of an array counts as the array
	s := mustRead(t, "mutex c[2]; func f(mutex m, mutex k) { lock m; unlock k; unlock c[5]; } func main() { f(mutex c[0], mutex c[1]); lock c[0]; }")
	if l := s.of(0); !equal(l, [][]int{{0, 2, 4, 8, 16, 32, 64, 128, 0}, {0, 1, 2, 4, 8, 16, 32, 64, 0}}) {
		t.Errorf("Of = %v", l)
	}
}

func TestInstances(t *testing.T) { // P16.2: the mutex is the one that a parameter stands for in the instance
	s := mustRead(t, "mutex a; mutex b; func f(mutex m, mutex k) { lock m; g(mutex k); } func g(mutex m) { unlock m; } func main() { f(mutex a, mutex b); f(mutex b, mutex a); f(mutex a, mutex a); f(mutex b, mutex b); }")
	for _, c := range []struct {
		instance string
		a, b     []int
	}{
		{"main()", []int{1, 0}, none1},
		{"f(a,b)", up1, down1}, {"f(b,a)", down1, up1}, {"f(a,a)", []int{1, 0}, same1}, {"f(b,b)", same1, []int{1, 0}},
		{"g(a)", down1, same1}, {"g(b)", same1, down1},
	} {
		i := s.named(t, c.instance)
		if a, b := s.of(0), s.of(1); !slices.Equal(a[i], c.a) || !slices.Equal(b[i], c.b) {
			t.Errorf("%s: Of = %v and %v; want %v and %v", c.instance, a[i], b[i], c.a, c.b)
		}
	}
}

func TestInner(t *testing.T) { // P16.1, with summaries that are not those of the program
	summaries := [][]int{{0, 0}, {1, 3}, {2, 1}}
	for _, c := range []struct {
		body string // of main, which has the number 0; it also starts f and g, which have the numbers 1 and 2
		want [][]int
	}{
		{"", [][]int{same1}},
		{"lock a; unlock a;", [][]int{same1, up1, {1, 0}}},
		{"unlock a; lock a;", [][]int{same1, down1, {0, 2}}},
		{"lock b; unlock b;", [][]int{same1, same1, same1}},
		{"f();", [][]int{same1, {1, 3}}},
		{"g();", [][]int{same1, {2, 1}}},
		{"g(); f(); g();", [][]int{same1, {2, 1}, {3, 1}, {3, 2}}},
		{"f(); lock a;", [][]int{same1, {1, 3}, {2, 2}}},
		// After a call of what does not return there is nothing, and neither is there after a return.
		{"main(); lock a;", [][]int{same1, none1, none1}},
		{"return; lock a; return;", [][]int{same1, none1, none1, none1}},
		{"go f(); go g(); go main(); lock a;", [][]int{same1, same1, same1, same1, up1}},
		{"if 0 { lock a; } else { f(); } unlock a;", [][]int{same1, same1, up1, same1, {3, 3}, {1, 1}}},
		{"if 0 { return; lock a; } f();", [][]int{same1, same1, none1, same1, {1, 3}}},
		// The relation of instruction 0 contains the Identity, but may contain more.
		{"while 1 { f(); }", [][]int{{1, 3}, {1, 3}, {1, 3}, {1, 3}}},
		{"while 1 { g(); }", [][]int{{3, 3}, {3, 3}, {3, 3}, {3, 3}}},
		{"while 1 { main(); }", [][]int{same1, same1, none1, same1}},
		{"while 1 { lock a; }", [][]int{ups1, ups1, up1, ups1}},
		{"lock a; while 1 { unlock a; if 1 { return; } }", [][]int{same1, {3, 0}, {3, 0}, {1, 0}, {1, 0}, {1, 0}, {3, 0}}},
	} {
		s := mustRead(t, "mutex a; mutex b; func f() { } func g() { } func main() { "+c.body+" go f(); go g(); }")
		want := append(slices.Clone(c.want), c.want[len(c.want)-1], c.want[len(c.want)-1])
		order := []int{0, s.named(t, "f()"), s.named(t, "g()")}
		l := make([][]int, 3)
		for n, i := range order {
			l[i] = summaries[n]
		}
		if got := s.inner(0, l, 0); !equal(got, want) {
			t.Errorf("%s: Inner = %v; want %v", c.body, got, want)
		}
	}
}

func TestInnerOfEach(t *testing.T) { // P16.1: the instance that is meant, with the mutexes that it stands for
	s := mustRead(t, "mutex a; rmutex b; func f(mutex m, mutex k) { lock m; if 1 { f(mutex k, mutex m); } unlock k; } func main() { f(mutex a, mutex b); }")
	i, j := s.named(t, "f(a,b)"), s.named(t, "f(b,a)")
	for _, c := range []struct {
		m, i  int
		other []int // the summary of the other instance
		want  [][]int
	}{
		{0, i, []int{0, 3}, [][]int{same1, up1, up1, {3, 0}, {3, 0}}},
		{0, j, []int{0, 3}, [][]int{same1, same1, same1, {1, 3}, {0, 1}}},
		{1, i, up8, [][]int{same8, same8, same8, {3, 6, 12, 24, 48, 96, 192, 384, 256}, {1, 3, 6, 12, 24, 48, 96, 192, 128}}},
		{1, j, down8, [][]int{same8, up8, up8, {3, 6, 12, 24, 48, 96, 192, 384, 0}, {3, 6, 12, 24, 48, 96, 192, 384, 0}}},
	} {
		l := slices.Repeat([][]int{slices.Repeat([]int{1}, s.limit(c.m)+1)}, 3)
		l[i+j-c.i] = c.other
		if got := s.inner(c.m, l, c.i); !equal(got, c.want) {
			t.Errorf("Inner(%d, %s) = %v; want %v", c.m, s.name(c.i), got, c.want)
		}
	}
}

func TestRounds(t *testing.T) { // P16.2: all are replaced at once, whichever of them are called by which
	s := mustRead(t, "mutex a; func main() { f(); } func f() { g(); } func g() { h(); } func h() { if 1 { lock a; } else { main(); } }")
	want := [][]int{none1, none1, none1, none1}
	for n := range 12 {
		if n > 0 && n < 5 { // the one with the number 4 - n is the first one that calls what has returned
			want[4-n] = up1
		}
		if l := s.rounds(0, n); !equal(l, want) {
			t.Errorf("Rounds(%d) = %v; want %v", n, l, want)
		}
	}
	for _, n := range []int{0, -1, -100, least} {
		if l := s.rounds(0, n); !equal(l, [][]int{none1, none1, none1, none1}) {
			t.Errorf("Rounds(%d) = %v", n, l)
		}
	}
	if l := s.of(0); !equal(l, want) {
		t.Errorf("Of = %v; want %v", l, want)
	}
}

// ring is a program of as many functions as there may be, each of which calls the next one, and the last one the first one; before one of these calls, r may be locked.
func ring() string {
	var b strings.Builder
	b.WriteString("rmutex r; func main() { if 1 { lock r; f0(); } } ")
	for n := range api.MaxFuncs - 2 {
		b.WriteString("func f" + strconv.Itoa(n) + "() { f" + strconv.Itoa(n+1) + "(); } ")
	}
	return b.String() + "func f" + strconv.Itoa(api.MaxFuncs-2) + "() { main(); } "
}

// locks returns the relation in which up to n locks may follow a depth.
func locks(n int) []int {
	r := make([]int, 9)
	for d := range r {
		for e := d; e <= min(d+n, 8); e++ {
			r[d] |= 1 << e
		}
	}
	return r
}

func TestManyRounds(t *testing.T) { // P16.2: the rounds are at most 100, but Of needs more of them
	s := mustRead(t, ring())
	if len(s.closure.Instances) != 16 {
		t.Fatalf("%d instances", len(s.closure.Instances))
	}
	for _, n := range []int{0, 1, 2, 15, 16, 17, 18, 33, 96, 97, 98, 99, 100, 101, 102, 113, 1000, most} {
		l := s.rounds(0, n)
		for i := range 16 {
			// Main has its first pair in round 1, the one before it in round 2, and main the next one in round 17.
			back := (16 - i) % 16
			want := none8
			if min(n, 100) > back {
				want = locks((min(n, 100) - back - 1) / 16)
			}
			if !slices.Equal(l[i], want) {
				t.Errorf("Rounds(%d) = %v; want %v for %s", n, l, want, s.name(i))
			}
		}
	}
	for n, r := range s.of(0) {
		if !slices.Equal(r, locks(8)) {
			t.Errorf("Of = %v for %s", r, s.name(n))
		}
	}
}

func TestUntouched(t *testing.T) { // P16.1, P16.2: a mutex that no instruction names
	s := mustRead(t, "mutex a; rmutex b; func main() { if 1 { main(); } while 1 { f(); } } func f() { f(); }")
	if l := s.of(0); !equal(l, [][]int{same1, none1}) {
		t.Errorf("Of(a) = %v", l)
	}
	if l := s.of(1); !equal(l, [][]int{same8, none8}) {
		t.Errorf("Of(b) = %v", l)
	}
}
