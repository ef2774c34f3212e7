package depth_test

import (
	"slices"
	"strconv"
	"strings"
	"testing"

	"lockorder/api"
	"lockorder/depth"
)

// depths says of each depth whether it is in a set.
type depths [api.MaxDepth + 1]bool

// depthsOf reads a set from its binary digits.
func depthsOf(set int) depths {
	var l depths
	digits := strings.Repeat("0", len(l)) + strconv.FormatInt(int64(set), 2)
	for d := range l {
		l[d] = digits[len(digits)-1-d] == '1'
	}
	return l
}

// set returns the set as a number: the sum of the powers of two.
func (l depths) set() int {
	sum, power := 0, 1
	for _, in := range l {
		if in {
			sum += power
		}
		power *= 2
	}
	return sum
}

// pairs says of each two depths whether the second one may follow the first one; there are so many sets.
type pairs struct {
	count   int
	follows [api.MaxDepth + 1]depths
}

// pairsOf reads a relation.
func pairsOf(r []int) pairs {
	p := pairs{count: len(r)}
	for d, set := range r {
		p.follows[d] = depthsOf(set)
	}
	return p
}

// pairsIf returns the relation of the pairs for which is holds.
func pairsIf(count int, is func(d, e int) bool) pairs {
	p := pairs{count: count}
	for d := range count {
		for e := range count {
			p.follows[d][e] = is(d, e)
		}
	}
	return p
}

// relation returns the relation as a list of sets.
func (p pairs) relation() []int {
	var r []int
	for d := range p.count {
		r = append(r, p.follows[d].set())
	}
	return r
}

// apply is Apply of P14.3.
func (p pairs) apply(l depths) depths {
	var after depths
	for d := range p.count {
		for e := range after {
			after[e] = after[e] || l[d] && p.follows[d][e]
		}
	}
	return after
}

// compose is Compose of P14.3.
func (p pairs) compose(q pairs) pairs {
	return pairsIf(p.count, func(d, e int) bool {
		for between := range p.count {
			if p.follows[d][between] && q.follows[between][e] {
				return true
			}
		}
		return false
	})
}

// union is Union of P14.3.
func (p pairs) union(q pairs) pairs {
	return pairsIf(p.count, func(d, e int) bool { return p.follows[d][e] || q.follows[d][e] })
}

// within is Within of P14.3: no pair is one of p only.
func (p pairs) within(q pairs) bool {
	return pairsIf(p.count, func(d, e int) bool { return p.follows[d][e] && !q.follows[d][e] }) == pairs{count: p.count}
}

// compareSet tests Has and List for a set.
func compareSet(t *testing.T, set int) {
	t.Helper()
	l := depthsOf(set)
	var want []int
	for d := -70; d <= 140; d++ {
		in := d >= 0 && d < len(l) && l[d]
		if in {
			want = append(want, d)
		}
		if is := depth.Has(set, d); is != in {
			t.Fatalf("Has(%d, %d) = %v", set, d, is)
		}
	}
	if got := depth.List(set); !slices.Equal(got, want) {
		t.Fatalf("List(%d) = %v; want %v", set, got, want)
	}
}

// compareApply tests Apply for a relation and a set.
func compareApply(t *testing.T, r []int, p pairs, set int) {
	t.Helper()
	want := p.apply(depthsOf(set)).set()
	if got := depth.Apply(r, set); got != want {
		t.Fatalf("Apply(%v, %d) = %d; want %d", r, set, got, want)
	}
}

// compareBoth tests Compose, Union and Within for two relations.
func compareBoth(t *testing.T, a, b []int, p, q pairs) {
	t.Helper()
	if got, want := depth.Compose(a, b), p.compose(q).relation(); !slices.Equal(got, want) {
		t.Fatalf("Compose(%v, %v) = %v; want %v", a, b, got, want)
	}
	if got, want := depth.Union(a, b), p.union(q).relation(); !slices.Equal(got, want) {
		t.Fatalf("Union(%v, %v) = %v; want %v", a, b, got, want)
	}
	if got, want := depth.Within(a, b), p.within(q); got != want {
		t.Fatalf("Within(%v, %v) = %v; want %v", a, b, got, want)
	}
}
