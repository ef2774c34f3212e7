package scc

import "math/bits"

// set is a set of nodes; its bit i says whether the node i is in it.
type set uint64

// only returns the set that has one node only.
func only(node int) set { return 1 << node }

func (s set) has(node int) bool { return s&only(node) != 0 }

// first returns the least node of a set that is not empty.
func (s set) first() int { return bits.TrailingZeros64(uint64(s)) }

// list returns the nodes of a set in ascending order.
func (s set) list() []int {
	var l []int
	for ; s != 0; s &^= only(s.first()) {
		l = append(l, s.first())
	}
	return l
}
