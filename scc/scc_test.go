package scc_test

import (
	"fmt"
	"slices"
	"testing"

	"lockorder/scc"
)

const least, most = -1 << 63, 1<<63 - 1

// same reports whether two lists have the same lists in the same order.
func same(a, b [][]int) bool { return slices.EqualFunc(a, b, slices.Equal[[]int]) }

// graphCase is a graph, its components, and those of them that are cyclic.
type graphCase struct {
	n                         int
	pairs, components, cyclic [][]int
}

func testGraphs(t *testing.T, cases []graphCase) {
	t.Helper()
	for _, c := range cases {
		if l := scc.Components(c.n, c.pairs); !same(l, c.components) {
			t.Errorf("Components(%d, %v) = %v; want %v", c.n, c.pairs, l, c.components)
		}
		if l := scc.Cyclic(c.n, c.pairs); !same(l, c.cyclic) {
			t.Errorf("Cyclic(%d, %v) = %v; want %v", c.n, c.pairs, l, c.cyclic)
		}
		compare(t, c.n, c.pairs)
	}
}

func TestExample(t *testing.T) { // that of the chapter
	testGraphs(t, []graphCase{{3, [][]int{{0, 1}, {1, 0}}, [][]int{{0, 1}, {2}}, [][]int{{0, 1}}}})
}

func TestComponents(t *testing.T) { // P21.1, P21.2
	testGraphs(t, []graphCase{
		{0, nil, nil, nil},
		{1, nil, [][]int{{0}}, nil},
		{3, [][]int{}, [][]int{{0}, {1}, {2}}, nil},
		// One way is not enough, however it goes and wherever it comes back to.
		{2, [][]int{{0, 1}}, [][]int{{0}, {1}}, nil},
		{2, [][]int{{1, 0}}, [][]int{{0}, {1}}, nil},
		{3, [][]int{{0, 1}, {1, 2}, {0, 2}}, [][]int{{0}, {1}, {2}}, nil},
		{3, [][]int{{0, 2}, {1, 2}}, [][]int{{0}, {1}, {2}}, nil},
		{4, [][]int{{0, 1}, {0, 2}, {1, 3}, {2, 3}}, [][]int{{0}, {1}, {2}, {3}}, nil},
		{3, [][]int{{0, 1}, {1, 2}, {2, 1}}, [][]int{{0}, {1, 2}}, [][]int{{1, 2}}},
		{3, [][]int{{0, 1}, {1, 0}, {1, 2}}, [][]int{{0, 1}, {2}}, [][]int{{0, 1}}},
		// Cycles of several nodes, the same ones in all directions.
		{3, [][]int{{0, 1}, {1, 2}, {2, 0}}, [][]int{{0, 1, 2}}, [][]int{{0, 1, 2}}},
		{3, [][]int{{0, 2}, {2, 1}, {1, 0}}, [][]int{{0, 1, 2}}, [][]int{{0, 1, 2}}},
		{3, [][]int{{0, 2}, {2, 0}}, [][]int{{0, 2}, {1}}, [][]int{{0, 2}}},
		{5, [][]int{{4, 3}, {3, 4}, {0, 3}, {4, 0}, {1, 0}}, [][]int{{0, 3, 4}, {1}, {2}}, [][]int{{0, 3, 4}}},
		// Cycles that have a node in common, and cycles with an edge in between.
		{5, [][]int{{0, 1}, {1, 2}, {2, 0}, {2, 3}, {3, 4}, {4, 2}}, [][]int{{0, 1, 2, 3, 4}}, [][]int{{0, 1, 2, 3, 4}}},
		{4, [][]int{{0, 1}, {1, 0}, {1, 2}, {2, 3}, {3, 2}}, [][]int{{0, 1}, {2, 3}}, [][]int{{0, 1}, {2, 3}}},
		{4, [][]int{{0, 1}, {1, 0}, {1, 2}, {2, 3}, {3, 2}, {3, 0}}, [][]int{{0, 1, 2, 3}}, [][]int{{0, 1, 2, 3}}},
	})
}

func TestOrder(t *testing.T) { // P21.1, P21.2: by the first elements, and not by the last ones, the sizes or the pairs
	testGraphs(t, []graphCase{
		{6, [][]int{{2, 4}, {4, 2}, {1, 3}, {3, 1}, {5, 0}, {0, 5}}, [][]int{{0, 5}, {1, 3}, {2, 4}}, [][]int{{0, 5}, {1, 3}, {2, 4}}},
		{5, [][]int{{4, 3}, {3, 2}, {2, 4}, {1, 1}}, [][]int{{0}, {1}, {2, 3, 4}}, [][]int{{1}, {2, 3, 4}}},
		{5, [][]int{{3, 1}, {1, 3}, {4, 0}, {3, 4}}, [][]int{{0}, {1, 3}, {2}, {4}}, [][]int{{1, 3}}},
		{7, [][]int{{6, 6}, {0, 6}, {5, 3}, {3, 1}, {1, 5}, {4, 4}, {2, 0}}, [][]int{{0}, {1, 3, 5}, {2}, {4}, {6}}, [][]int{{1, 3, 5}, {4}, {6}}},
		{4, [][]int{{3, 2}, {2, 1}, {1, 0}}, [][]int{{0}, {1}, {2}, {3}}, nil},
	})
}

func TestCyclic(t *testing.T) { // P21.2: one node is cyclic if there is an edge to itself, and only then
	testGraphs(t, []graphCase{
		{1, [][]int{{0, 0}}, [][]int{{0}}, [][]int{{0}}},
		{2, [][]int{{1, 1}}, [][]int{{0}, {1}}, [][]int{{1}}},
		{3, [][]int{{0, 0}, {0, 1}, {2, 0}}, [][]int{{0}, {1}, {2}}, [][]int{{0}}},
		{3, [][]int{{0, 1}, {1, 1}, {1, 2}}, [][]int{{0}, {1}, {2}}, [][]int{{1}}},
		{3, [][]int{{0, 1}, {1, 0}, {1, 1}}, [][]int{{0, 1}, {2}}, [][]int{{0, 1}}},
		{3, [][]int{{2, 2}, {0, 0}, {1, 1}}, [][]int{{0}, {1}, {2}}, [][]int{{0}, {1}, {2}}},
	})
}

func TestDisregarded(t *testing.T) { // section Functions: elements that are no pairs of nodes
	singles := [][]int{{0}, {1}, {2}}
	for _, p := range [][]int{nil, {}, {0}, {1}, {0, 0, 0}, {0, 1, 0}, {0, 1, 2}, {1, 2, 0, 0}, {-1, -1}, {3, 3}, {-1, 0}, {0, -1}, {3, 0}, {0, 3}, {64, 0}, {0, 64}, {-64, 0}, {0, -64}, {63, 0}, {least, 0}, {0, least}, {most, 0}, {0, most}, {1 << 32, 0}, {0, 1 << 32}, {1<<32 + 1, 1 << 33}} {
		testGraphs(t, []graphCase{
			{3, [][]int{p}, singles, nil},
			// It does not keep the others from counting.
			{3, [][]int{{0, 1}, p, {1, 0}}, [][]int{{0, 1}, {2}}, [][]int{{0, 1}}},
			{3, [][]int{p, p, {1, 1}}, singles, [][]int{{1}}},
			{3, [][]int{{0, 1}, p, {1, 2}}, singles, nil},
		})
	}
	// A path does not lead through what is no node.
	testGraphs(t, []graphCase{{3, [][]int{{0, 3}, {3, 1}, {1, -1}, {-1, 0}}, singles, nil}})
}

func TestClamped(t *testing.T) { // section Functions: the number of nodes
	for _, n := range []int{least, -1 << 32, -64, -2, -1, 0} {
		testGraphs(t, []graphCase{{n, [][]int{{0, 0}, {-1, -1}, {-1, 0}}, nil, nil}})
	}
	for _, n := range []int{64, 65, 127, 128, 1 << 32, most} {
		pairs := [][]int{{63, 0}, {0, 63}, {64, 1}, {1, 64}, {64, 64}, {62, 62}, {65, 2}, {2, 65}, {127, 63}, {most, most}}
		l := scc.Components(n, pairs)
		if len(l) != 63 || !slices.Equal(l[0], []int{0, 63}) {
			t.Errorf("Components(%d, %v) = %v", n, pairs, l)
		}
		if l := scc.Cyclic(n, pairs); !same(l, [][]int{{0, 63}, {62}}) {
			t.Errorf("Cyclic(%d, %v) = %v", n, pairs, l)
		}
		compare(t, n, pairs)
	}
	if l := scc.Components(63, [][]int{{62, 0}, {0, 62}, {63, 1}, {1, 63}}); len(l) != 62 {
		t.Errorf("Components(63) = %v", l)
	}
}

func TestReaches(t *testing.T) { // P21.1
	pairs := [][]int{{0, 1}, {1, 2}, {2, 1}, {3, 3}, {2, 4}, {5, 0}, {5, 3}}
	want := [][]int{{1, 2, 4}, {1, 2, 4}, {1, 2, 4}, {3}, nil, {0, 1, 2, 3, 4}, nil}
	for from, reached := range want {
		for to := -2; to < 10; to++ {
			if is := scc.Reaches(7, pairs, from, to); is != slices.Contains(reached, to) {
				t.Errorf("from %d to %d: %v", from, to, is)
			}
		}
	}
}

func TestNoNodes(t *testing.T) { // P21.1: from or to is not a node
	pairs := [][]int{{0, 1}, {1, 0}, {-1, 0}, {0, -1}, {2, 0}, {0, 2}, {2, 2}, {63, 63}, {64, 0}, {0, 64}, {64, 64}, {-1, -1}, {least, least}, {most, most}, {0, most}}
	for _, n := range []int{least, -1, 0, 1, 2, 3, 63, 64, 65, most} {
		for _, x := range []int{least, least + 1, -1 << 32, -65, -64, -63, -2, -1, 64, 65, 127, 128, 1 << 32, most - 1, most} {
			for _, y := range []int{x, 0, 1, 2, 63, -1, 64} {
				if scc.Reaches(n, pairs, x, y) || scc.Reaches(n, pairs, y, x) {
					t.Errorf("of %d nodes %d reaches %d, or the other way round", n, x, y)
				}
			}
		}
		for _, node := range []int{0, 1, 2, 62, 63} {
			if is := scc.Reaches(n, [][]int{{node, node}}, node, node); is != (node < n) {
				t.Errorf("of %d nodes %d reaches itself: %v", n, node, is)
			}
		}
	}
}

// ring returns the pairs of a ring of all nodes, in which each one is followed by the one that is greater by step. Without the last pair it is a chain.
func ring(n, step int) [][]int {
	var pairs [][]int
	for i := range n {
		pairs = append(pairs, []int{i * step % n, (i + 1) * step % n})
	}
	return pairs
}

func TestLongPaths(t *testing.T) { // P21.1, P21.2: through all nodes
	for _, n := range []int{2, 3, 31, 32, 33, 63, 64} {
		all := make([]int, n)
		var singles [][]int
		for i := range all {
			all[i] = i
			singles = append(singles, []int{i})
		}
		for _, step := range []int{1, n - 1, 5, 25} { // none has a divisor in common with n, so that the ring has all nodes
			pairs := ring(n, step)
			testGraphs(t, []graphCase{{n, pairs, [][]int{all}, [][]int{all}}, {n, pairs[:n-1], singles, nil}})
			last := (n - 1) * step % n
			if !scc.Reaches(n, pairs[:n-1], 0, last) || scc.Reaches(n, pairs[:n-1], last, 0) || scc.Reaches(n, pairs[:n-1], 0, 0) {
				t.Errorf("%d nodes, step %d: the chain from 0 to %d", n, step, last)
			}
		}
	}
}

func TestUnited(t *testing.T) { // P21.3: the order of pairs, repeated ones, and one more
	pairs := [][]int{{0, 1}, {1, 0}, {1, 2}, {2, 3}, {3, 2}, {4, 4}}
	want := [][]int{{0, 1}, {2, 3}, {4}, {5}}
	for _, l := range [][][]int{pairs, {{4, 4}, {3, 2}, {2, 3}, {1, 2}, {1, 0}, {0, 1}}, {{3, 2}, {0, 1}, {0, 1}, {4, 4}, {1, 0}, {3, 2}, {2, 3}, {1, 2}, {4, 4}, {1, 2}}} {
		testGraphs(t, []graphCase{{6, l, want, want[:3]}})
	}
	for _, c := range []struct {
		pair []int
		want string
	}{
		{[]int{1, 2}, "[[0 1] [2 3] [4] [5]]"}, // it is there
		{[]int{0, 3}, "[[0 1] [2 3] [4] [5]]"},
		{[]int{5, 0}, "[[0 1] [2 3] [4] [5]]"},
		{[]int{5, 5}, "[[0 1] [2 3] [4] [5]]"},
		{[]int{5, 6}, "[[0 1] [2 3] [4] [5]]"},
		{[]int{3, 0}, "[[0 1 2 3] [4] [5]]"},
	} {
		more := append(slices.Clone(pairs), c.pair)
		if l := fmt.Sprint(scc.Components(6, more)); l != c.want {
			t.Errorf("Components(6, %v) = %v; want %v", more, l, c.want)
		}
	}
}
