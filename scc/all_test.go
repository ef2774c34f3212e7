package scc_test

import (
	"fmt"
	"math/rand"
	"slices"
	"testing"

	"lockorder/scc"
)

// allPairs returns all pairs of n nodes.
func allPairs(n int) [][]int {
	var pairs [][]int
	for from := range n {
		for to := range n {
			pairs = append(pairs, []int{from, to})
		}
	}
	return pairs
}

// chosen returns the pairs whose bits are in a number.
func chosen(pairs [][]int, bits int) [][]int {
	var l [][]int
	for i, p := range pairs {
		if bits&(1<<i) != 0 {
			l = append(l, p)
		}
	}
	return l
}

func TestAllSmallGraphs(t *testing.T) { // P21.1, P21.2
	shapes := map[string]int{}
	for n := range 5 {
		pairs := allPairs(n)
		for bits := range 1 << len(pairs) {
			r := compare(t, n, chosen(pairs, bits))
			shapes[fmt.Sprint(r.components, r.cyclic)]++
		}
	}
	// The nodes can be divided in 1, 1, 2, 5 and 15 ways. Of the components with one node each may be cyclic or not.
	if want := 1 + 2 + (1 + 4) + (1 + 3*2 + 8) + (1 + 4*2 + 3 + 6*4 + 16); len(shapes) != want {
		t.Errorf("%d divisions; want %d", len(shapes), want)
	}
}

func TestAllSmallGraphsUnited(t *testing.T) { // P21.3: one more pair
	for n := range 4 {
		pairs := allPairs(n)
		for bits := range 1 << len(pairs) {
			r := referenceOf(n, chosen(pairs, bits))
			for _, p := range pairs {
				r.compareUnited(t, n, append(chosen(pairs, bits), p))
			}
		}
	}
}

// noise are elements that are no edges of any graph.
var noise = [][]int{nil, {}, {0}, {1, 0, 1}, {0, 1, 0}, {-1, 0}, {0, -1}, {64, 0}, {0, 64}, {64, 64}, {-1, -1}, {most, 0}, {0, least}, {0, 1, 0, 1}}

// randomGraph makes a graph by chance, perhaps with elements of pairs that are no edges.
func randomGraph(r *rand.Rand) (int, [][]int) {
	n := r.Intn(13)
	if r.Intn(3) == 0 {
		n = r.Intn(70)
	}
	var pairs [][]int
	for range r.Intn(1 + n*(1+r.Intn(3))) {
		pairs = append(pairs, []int{r.Intn(n), r.Intn(n)})
	}
	if r.Intn(3) == 0 {
		for range 1 + r.Intn(4) {
			pairs = slices.Insert(pairs, r.Intn(len(pairs)+1), noise[r.Intn(len(noise))])
		}
	}
	return n, pairs
}

func TestRandomGraphs(t *testing.T) { // P21.1, P21.2
	r := rand.New(rand.NewSource(1))
	several, own, long, greatest := 0, 0, 0, 0
	for range 3000 {
		n, pairs := randomGraph(r)
		facts := compare(t, n, pairs)
		large := 0
		for _, c := range facts.components {
			large += min(len(c)/2, 1)
			greatest = max(greatest, len(c))
			long += min(len(c)/10, 1)
		}
		several += min(large/2, 1)
		own += min(len(facts.cyclic)-large, 1)
	}
	if several < 120 || own < 900 || long < 150 || greatest < 50 {
		t.Errorf("%d graphs have several components of two nodes or more, %d a cyclic one of one node, %d components have ten nodes or more; the greatest one has %d", several, own, long, greatest)
	}
}

func TestRandomOrder(t *testing.T) { // P21.3: the order of pairs, and repeated ones
	r := rand.New(rand.NewSource(2))
	for range 2000 {
		n, pairs := randomGraph(r)
		components, cyclic := fmt.Sprint(scc.Components(n, pairs)), fmt.Sprint(scc.Cyclic(n, pairs))
		other := slices.Clone(pairs)
		for range r.Intn(1 + len(pairs)) {
			other = append(other, pairs[r.Intn(len(pairs))])
		}
		r.Shuffle(len(other), func(i, j int) { other[i], other[j] = other[j], other[i] })
		if l := fmt.Sprint(scc.Components(n, other)); l != components {
			t.Fatalf("Components(%d, %v) = %v; for %v it is %v", n, other, l, pairs, components)
		}
		if l := fmt.Sprint(scc.Cyclic(n, other)); l != cyclic {
			t.Fatalf("Cyclic(%d, %v) = %v; for %v it is %v", n, other, l, pairs, cyclic)
		}
	}
}

func TestRandomUnited(t *testing.T) { // P21.3: one pair more, one after the other
	r := rand.New(rand.NewSource(3))
	for range 300 {
		n, pairs := randomGraph(r)
		for i := range pairs {
			referenceOf(n, pairs[:i]).compareUnited(t, n, pairs[:i+1])
		}
	}
}

func TestManyPairs(t *testing.T) { // P21.1, P21.2: all pairs, many times
	pairs := slices.Repeat(allPairs(64), 100)
	all := [][]int{nodesOf(64)}
	if l := scc.Components(64, pairs); !same(l, all) {
		t.Errorf("Components = %v", l)
	}
	if l := scc.Cyclic(64, pairs); !same(l, all) {
		t.Errorf("Cyclic = %v", l)
	}
	if !scc.Reaches(64, pairs, 63, 63) || scc.Reaches(64, pairs, 63, 64) {
		t.Errorf("Reaches")
	}
	upwards := slices.DeleteFunc(pairs, func(p []int) bool { return p[0] >= p[1] })
	if l := scc.Components(64, upwards); len(l) != 64 {
		t.Errorf("Components = %v", l)
	}
	if l := scc.Cyclic(64, upwards); l != nil {
		t.Errorf("Cyclic = %v", l)
	}
	if !scc.Reaches(64, upwards, 0, 63) || scc.Reaches(64, upwards, 63, 0) {
		t.Errorf("Reaches")
	}
}

// fill sets all numbers in lists, as far as the capacities reach.
func fill(lists [][]int, n int) {
	for _, l := range lists[:cap(lists)] {
		for i := range l[:cap(l)] {
			l[:cap(l)][i] = n
		}
	}
}

// inMemory returns a copy of lists in memory that goes on behind them and behind each of them.
func inMemory(lists [][]int) [][]int {
	copies := make([][]int, 0, len(lists)+2)
	for _, l := range lists {
		copies = append(copies, append(slices.Clone(l), 0, 1, -7)[:len(l)])
	}
	return append(copies, []int{1, 0}, []int{0, 0})[:len(lists)]
}

// whole returns lists as text, with what goes on behind them.
func whole(lists [][]int) string {
	text := ""
	for _, l := range lists[:cap(lists)] {
		text += fmt.Sprint(len(l), l[:cap(l)])
	}
	return text
}

// checkMemory tests R2 and R3: nothing is changed, kept or shared, and the results are the same again.
func checkMemory(t *testing.T, n int, pairs [][]int) {
	t.Helper()
	given := inMemory(pairs)
	before := whole(given)
	call := func(pairs [][]int) [][][]int {
		is := 0
		if scc.Reaches(n, pairs, 0, 1) {
			is = 1
		}
		return [][][]int{scc.Components(n, pairs), scc.Cyclic(n, pairs), {{is}}}
	}
	first, second := call(given), call(given)
	want := fmt.Sprint(second)
	for _, lists := range first {
		fill(lists, -9)
	}
	if fmt.Sprint(second) != want || whole(given) != before {
		t.Fatalf("%d, %v: the results share memory with the pairs or with those of another call", n, pairs)
	}
	fill(given, -8)
	if fmt.Sprint(second) != want {
		t.Fatalf("%d, %v: the results share memory with the pairs", n, pairs)
	}
	third := call(slices.Clone(pairs))
	if fmt.Sprint(third) != want {
		t.Fatalf("%d, %v: %v, and then %v", n, pairs, want, third)
	}
	var items [][]int
	for _, lists := range third {
		items = append(items, lists...)
	}
	for i, l := range items {
		fill([][]int{l}, -10-i)
	}
	for i, l := range items {
		if slices.ContainsFunc(l, func(x int) bool { return x != -10-i }) {
			t.Fatalf("%d, %v: lists of the results share memory: %v", n, pairs, items)
		}
	}
}

func TestMemory(t *testing.T) { // R2, R3
	r := rand.New(rand.NewSource(4))
	for range 1000 {
		n, pairs := randomGraph(r)
		checkMemory(t, n, pairs)
	}
	for _, n := range []int{least, -1, 0, 1, 64, 65, most} {
		checkMemory(t, n, nil)
		checkMemory(t, n, noise)
	}
}

func TestAnyNumbers(t *testing.T) { // R1: all numbers of nodes, and all elements of pairs
	numbers := []int{least, least + 1, -1 << 32, -64, -1, 0, 1, 2, 62, 63, 64, 65, 1 << 32, most - 1, most}
	pairs := slices.Clone(noise)
	for _, from := range numbers {
		for _, to := range numbers {
			pairs = append(pairs, []int{from, to}, []int{to, from, from})
		}
	}
	for _, n := range numbers {
		compare(t, n, pairs)
	}
}

func FuzzComponents(f *testing.F) { // P21.1 to P21.3
	f.Add(3, []byte{0, 1, 1, 0})
	f.Add(64, []byte{0, 1, 1, 63, 63, 2, 2, 0, 5, 5})
	f.Add(100, []byte{0, 64, 64, 0, 255, 255})
	f.Add(-1, []byte{0, 0})
	f.Fuzz(func(t *testing.T, n int, bytes []byte) {
		var pairs [][]int
		for len(bytes) > 1 && len(pairs) < 300 {
			pairs = append(pairs, []int{int(int8(bytes[0])), int(int8(bytes[1]))})
			bytes = bytes[2:]
		}
		compare(t, n, pairs)
		if len(pairs) > 0 {
			referenceOf(n, pairs[1:]).compareUnited(t, n, pairs)
		}
		checkMemory(t, n, pairs)
	})
}
