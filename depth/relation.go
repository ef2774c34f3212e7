package depth

// Identity returns the relation in which each depth is followed by itself.
func Identity(limit int) []int { return relation(nearest(limit)+1, only) }

// Up returns the relation in which each depth is followed by the next one, and limit by none.
func Up(limit int) []int {
	return relation(nearest(limit)+1, func(d int) int { return only(d+1) & Full(limit) })
}

// Down returns the relation in which each depth is followed by the one before, and 0 by none.
func Down(limit int) []int {
	return relation(nearest(limit)+1, func(d int) int { return only(d - 1) })
}

// Apply returns the set of all depths that may follow a depth of a set.
func Apply(r []int, set int) int {
	add := collector[int](func(before, d int) int { return before | follow(r, d) })
	return add.all(set)
}

// Compose returns the relation in which a depth is followed by what may follow by b on what follows it by a.
func Compose(a, b []int) []int {
	return relation(len(a), func(d int) int { return Apply(b, a[d]) })
}

// Union returns the relation with the sets of both.
func Union(a, b []int) []int {
	return relation(len(a), func(d int) int { return a[d] | follow(b, d) })
}

// Within reports whether each set of a is contained in that of b.
func Within(a, b []int) bool {
	for d, set := range a {
		if set&^follow(b, d) != 0 {
			return false
		}
	}
	return true
}

// relation returns the relation with so many sets in which the depth d is followed by those of set(d).
func relation(count int, set func(d int) int) []int {
	r := make([]int, count)
	for d := range r {
		r[d] = set(d)
	}
	return r
}

// follow returns the depths that may follow d, which are none if d exceeds the limit of the relation.
func follow(r []int, d int) int {
	if d >= len(r) {
		return 0
	}
	return r[d]
}
