package scc

// mostNodes is the greatest number of nodes of a graph, so that each of them is one bit of a set.
const mostNodes = 64

// graph has, for each node, the nodes to which an edge leads from it.
type graph []set

// graphOf returns the graph with n nodes, or the number nearest to n that it may have, and those of the pairs that are edges.
func graphOf(n int, pairs [][]int) graph {
	g := make(graph, min(max(n, 0), mostNodes))
	for _, p := range pairs {
		if len(p) == 2 && g.isNode(p[0]) && g.isNode(p[1]) {
			g[p[0]] |= only(p[1])
		}
	}
	return g
}

func (g graph) isNode(n int) bool { return n >= 0 && n < len(g) }

// reached returns the nodes to which a path of one or more edges leads from a node.
func (g graph) reached(from int) set {
	var found, followed set
	node := from
follow:
	found |= g[node]
	if left := found &^ followed; left != 0 {
		node = left.first()
		followed |= only(node)
		// The node to begin with takes the same way as those that are found, but is not found before an edge leads to it.
		goto follow
	}
	return found
}

// paths returns the graph with an edge in the place of each path of one or more edges.
func (g graph) paths() graph {
	p := make(graph, len(g))
	for node := range g {
		p[node] = g.reached(node)
	}
	return p
}

// component returns the nodes that are in the same component as a node, if the edges are those of paths.
func (g graph) component(node int) set {
	s := only(node)
	for _, other := range g[node].list() {
		if g[other].has(node) {
			s |= only(other)
		}
	}
	return s
}

// components returns all components in the order of their first elements, if the edges are those of paths.
func (g graph) components() [][]int {
	var l [][]int
	for node := range g {
		// Each component is met at all of its nodes, but added at the first one only.
		if s := g.component(node); s.first() == node {
			l = append(l, s.list())
		}
	}
	return l
}
