package explore

import (
	"testing"

	"lockorder/api"
)

func TestSameDigest(t *testing.T) { // P12.1: states that differ are not taken for the same, even if their digests are
	one := api.State{Globals: []int{0, 0}}
	d := basis.with(0)
	two := api.State{Globals: []int{1, int(d.with(0) ^ d.with(1))}}
	if digestOf(one) != digestOf(two) {
		t.Fatalf("the digests are %d and %d", digestOf(one), digestOf(two))
	}
	l := begin(api.Unit{}, 1)
	l.add(one, origin{}, 0)
	if !l.has(one) || l.has(two) {
		t.Errorf("after %v has been found, %v, %v", one, l.has(one), l.has(two))
	}
	l.add(two, origin{}, 0)
	if !l.has(one) || !l.has(two) || l.has(api.State{Globals: []int{1, 1}}) {
		t.Errorf("after both have been found, %v, %v", l.has(one), l.has(two))
	}
}
