package scc_test

import (
	"slices"
	"testing"

	"lockorder/scc"
)

// table says of two numbers whether the second one can be reached from the first one.
type table map[[2]int]bool

// nodesOf returns the nodes.
func nodesOf(n int) []int {
	var nodes []int
	for i := 0; i < n && i < 64; i++ {
		nodes = append(nodes, i)
	}
	return nodes
}

// edgesOf returns what can be reached by one edge.
func edgesOf(nodes []int, pairs [][]int) table {
	l := table{}
	for _, p := range pairs {
		if len(p) == 2 && slices.Contains(nodes, p[0]) && slices.Contains(nodes, p[1]) {
			l[[2]int{p[0], p[1]}] = true
		}
	}
	return l
}

// closed returns what can be reached by any number of the edges, at least one. Each node is allowed in between, one after the other.
func (l table) closed(nodes []int) table {
	for _, between := range nodes {
		for _, from := range nodes {
			if !l[[2]int{from, between}] {
				continue
			}
			for _, to := range nodes {
				if l[[2]int{between, to}] {
					l[[2]int{from, to}] = true
				}
			}
		}
	}
	return l
}

// reference is what is to be said about a graph.
type reference struct {
	nodes              []int
	paths              table
	components, cyclic [][]int
}

// referenceOf puts each node into the component whose first node reaches it and is reached by it, or into a new one.
func referenceOf(n int, pairs [][]int) reference {
	r := reference{nodes: nodesOf(n)}
	r.paths = edgesOf(r.nodes, pairs).closed(r.nodes)
	for _, node := range r.nodes {
		at := slices.IndexFunc(r.components, func(c []int) bool { return r.paths[[2]int{c[0], node}] && r.paths[[2]int{node, c[0]}] })
		if at < 0 {
			r.components = append(r.components, []int{node})
		} else {
			r.components[at] = append(r.components[at], node)
		}
	}
	for _, c := range r.components {
		if slices.ContainsFunc(c, func(node int) bool { return r.paths[[2]int{node, node}] }) {
			r.cyclic = append(r.cyclic, c)
		}
	}
	return r
}

// compare tests all functions for a graph, and returns what is to be said about it.
func compare(t *testing.T, n int, pairs [][]int) reference {
	t.Helper()
	r := referenceOf(n, pairs)
	if l := scc.Components(n, pairs); !same(l, r.components) {
		t.Fatalf("Components(%d, %v) = %v; want %v", n, pairs, l, r.components)
	}
	if l := scc.Cyclic(n, pairs); !same(l, r.cyclic) {
		t.Fatalf("Cyclic(%d, %v) = %v; want %v", n, pairs, l, r.cyclic)
	}
	around := append([]int{-2, -1, len(r.nodes), len(r.nodes) + 1, n, most, least}, r.nodes...)
	for _, from := range around {
		for _, to := range around {
			if is := scc.Reaches(n, pairs, from, to); is != r.paths[[2]int{from, to}] {
				t.Fatalf("Reaches(%d, %v, %d, %d) = %v", n, pairs, from, to, is)
			}
		}
	}
	return r
}

// compareUnited tests that each component of the reference is in one of those of the same graph with more pairs.
func (r reference) compareUnited(t *testing.T, n int, more [][]int) {
	t.Helper()
	united := scc.Components(n, more)
	for _, c := range r.components {
		contains := func(l []int) bool {
			return !slices.ContainsFunc(c, func(node int) bool { return !slices.Contains(l, node) })
		}
		if !slices.ContainsFunc(united, contains) {
			t.Fatalf("Components(%d, %v) = %v, but %v is one with fewer pairs", n, more, united, c)
		}
	}
}
