package depth_test

import (
	"fmt"
	"math/rand"
	"slices"
	"testing"

	"lockorder/api"
	"lockorder/depth"
)

// relations returns all relations with this limit.
func relations(limit int) [][]int {
	all := [][]int{nil}
	for range limit + 1 {
		var longer [][]int
		for _, r := range all {
			for set := range 1 << (limit + 1) {
				longer = append(longer, append(slices.Clone(r), set))
			}
		}
		all = longer
	}
	return all
}

// randomRelation returns a relation with this limit, whose sets have few depths, many, or about half of them.
func randomRelation(r *rand.Rand, limit int) []int {
	l := make([]int, limit+1)
	density := r.Intn(4)
	for d := range l {
		l[d] = r.Intn(1 << (limit + 1))
		switch density {
		case 0:
			l[d] &= r.Intn(1<<(limit+1)) & r.Intn(1<<(limit+1))
		case 1:
			l[d] |= r.Intn(1<<(limit+1)) | r.Intn(1<<(limit+1))
		}
	}
	return l
}

func TestAllSets(t *testing.T) { // P14.1
	for set := range 512 {
		compareSet(t, set)
	}
}

func TestAllLimits(t *testing.T) { // P14.1, P14.2
	for limit := 0; limit <= api.MaxDepth; limit++ {
		for d := -2; d < 70; d++ {
			if is := depth.Has(depth.Full(limit), d); is != (d >= 0 && d <= limit) {
				t.Errorf("Has(Full(%d), %d) = %v", limit, d, is)
			}
		}
		for _, c := range []struct {
			name    string
			got     []int
			between int
		}{
			{"Identity", depth.Identity(limit), 0}, {"Up", depth.Up(limit), 1}, {"Down", depth.Down(limit), -1},
		} {
			want := pairsIf(limit+1, func(d, e int) bool { return e-d == c.between }).relation()
			if !slices.Equal(c.got, want) {
				t.Errorf("%s(%d) = %v; want %v", c.name, limit, c.got, want)
			}
		}
	}
}

func TestAllSmallRelations(t *testing.T) { // P14.3
	for limit := range 4 {
		all := relations(limit)
		var read []pairs
		for _, r := range all {
			read = append(read, pairsOf(r))
		}
		sets := 512
		if limit == 3 {
			sets = 32
		}
		for i, a := range all {
			for set := range sets {
				compareApply(t, a, read[i], set)
			}
			for j, b := range all {
				if limit < 3 {
					compareBoth(t, a, b, read[i], read[j])
				}
			}
		}
	}
}

func TestRandomRelations(t *testing.T) { // P14.3
	r := rand.New(rand.NewSource(1))
	within := 0
	for range 40000 {
		limit := r.Intn(api.MaxDepth + 1)
		a, b := randomRelation(r, limit), randomRelation(r, limit)
		if r.Intn(4) == 0 { // b has what a has, and perhaps all but one pair
			b = pairsOf(a).union(pairsOf(b)).relation()
			b[r.Intn(limit+1)] &^= r.Intn(2) << r.Intn(limit+1)
		}
		p, q := pairsOf(a), pairsOf(b)
		compareBoth(t, a, b, p, q)
		compareApply(t, a, p, r.Intn(512))
		if p.within(q) {
			within++
		}
	}
	if within < 5000 || within > 35000 {
		t.Errorf("%d of the relations are within the other one", within)
	}
}

// laws tests P14.4 for three relations and two sets.
func laws(t *testing.T, a, b, c []int, s, o int) {
	t.Helper()
	same := func(what string, x, y []int) {
		if !slices.Equal(x, y) {
			t.Fatalf("%v, %v, %v, %d, %d: %s: %v and %v", a, b, c, s, o, what, x, y)
		}
	}
	one := func(set int) []int { return []int{set} }
	neutral := depth.Identity(len(a) - 1)
	same("associative", depth.Compose(depth.Compose(a, b), c), depth.Compose(a, depth.Compose(b, c)))
	same("neutral on the left", depth.Compose(neutral, a), a)
	same("neutral on the right", depth.Compose(a, neutral), a)
	same("neutral for a set", one(depth.Apply(neutral, s)), one(s&depth.Full(len(a)-1)))
	both, more := depth.Union(a, b), depth.Union(b, c)
	same("union on the left", depth.Compose(both, c), depth.Union(depth.Compose(a, c), depth.Compose(b, c)))
	same("union on the right", depth.Compose(a, more), depth.Union(depth.Compose(a, b), depth.Compose(a, c)))
	same("union of relations", one(depth.Apply(both, s)), one(depth.Apply(a, s)|depth.Apply(b, s)))
	same("union of sets", one(depth.Apply(a, s|o)), one(depth.Apply(a, s)|depth.Apply(a, o)))
	same("applied one after the other", one(depth.Apply(depth.Compose(a, b), s)), one(depth.Apply(b, depth.Apply(a, s))))
	for _, x := range [][2][]int{
		{a, both}, {b, both},
		{depth.Compose(a, c), depth.Compose(both, c)}, {depth.Compose(c, a), depth.Compose(c, both)},
		{one(depth.Apply(a, s)), one(depth.Apply(both, s))}, {one(depth.Apply(a, s)), one(depth.Apply(a, s|o))},
	} {
		if !depth.Within(x[0], x[1]) {
			t.Fatalf("%v, %v, %v, %d, %d: monotone: %v and %v", a, b, c, s, o, x[0], x[1])
		}
	}
}

func TestLaws(t *testing.T) { // P14.4
	for limit := range 2 {
		all := relations(limit)
		for _, a := range all {
			for _, b := range all {
				for _, c := range all {
					for set := range 16 {
						laws(t, a, b, c, set%4, set/4)
					}
				}
			}
		}
	}
	r := rand.New(rand.NewSource(2))
	for range 20000 {
		limit := r.Intn(api.MaxDepth + 1)
		laws(t, randomRelation(r, limit), randomRelation(r, limit), randomRelation(r, limit), r.Intn(512), r.Intn(512))
	}
}

// results returns what all functions return for these arguments: the lists, and the other results as a text.
func results(a, b []int, limit, set int) ([][]int, string) {
	lists := [][]int{depth.List(set), depth.Identity(limit), depth.Up(limit), depth.Down(limit), depth.Compose(a, b), depth.Union(a, b)}
	return lists, fmt.Sprint(depth.Cap(api.Mutex{Size: limit}), depth.Full(limit), depth.Has(set, limit), depth.Apply(a, set), depth.Within(a, b))
}

// inMemory returns a copy of a list in memory that goes on behind it.
func inMemory(l []int) (whole, part []int) {
	whole = append(slices.Clone(l), -7, -7, -7)
	return whole, whole[:len(l)]
}

// checkMemory tests R2 and R3 for these arguments: nothing is changed, kept or shared, and the results are the same again.
func checkMemory(t *testing.T, a, b []int, limit, set int) {
	t.Helper()
	wholeA, partA := inMemory(a)
	wholeB, partB := inMemory(b)
	first, text := results(partA, partB, limit, set)
	want := fmt.Sprint(first)
	second, again := results(partA, partB, limit, set)
	if fmt.Sprint(second) != want || again != text {
		t.Fatalf("%v, %v, %d, %d: %v %s, and then %v %s", a, b, limit, set, want, text, second, again)
	}
	for _, l := range first {
		for i := range l[:cap(l)] {
			l[:cap(l)][i] = -9
		}
	}
	if !slices.Equal(wholeA, append(slices.Clone(a), -7, -7, -7)) || !slices.Equal(wholeB, append(slices.Clone(b), -7, -7, -7)) {
		t.Fatalf("%v, %v, %d, %d: the arguments are changed or shared: %v, %v", a, b, limit, set, wholeA, wholeB)
	}
	clear(wholeA)
	clear(wholeB)
	if fmt.Sprint(second) != want {
		t.Fatalf("%v, %v, %d, %d: the results are shared: %v has become %v", a, b, limit, set, want, second)
	}
	third, again := results(slices.Clone(a), slices.Clone(b), limit, set)
	if fmt.Sprint(third) != want || again != text {
		t.Fatalf("%v, %v, %d, %d: %v %s, and at last %v %s", a, b, limit, set, want, text, third, again)
	}
	for i, l := range third { // the lists of one call each
		for j := range l[:cap(l)] {
			l[:cap(l)][j] = -10 - i
		}
	}
	for i, l := range third {
		if slices.ContainsFunc(l, func(x int) bool { return x != -10-i }) {
			t.Fatalf("%v, %v, %d, %d: results share memory: %v", a, b, limit, set, third)
		}
	}
}

func TestMemory(t *testing.T) { // R2, R3
	r := rand.New(rand.NewSource(3))
	for range 2000 {
		limit := r.Intn(api.MaxDepth + 1)
		checkMemory(t, randomRelation(r, limit), randomRelation(r, limit), limit, r.Intn(512))
	}
}

func TestUnspecified(t *testing.T) { // R1, R2, R6: limits and sets that are none, and lists that are no relations, or of different lengths
	numbers := []int{least, least + 1, least + 8, -1 << 32, -512, -64, -9, -2, -1, 0, 1, 8, 9, 10, 62, 63, 64, 65, 511, 512, 1 << 31, 1 << 32, 1 << 62, most - 1, most}
	lists := [][]int{nil, {}, {0}, {1}, {-1}, {most}, {least, 512}, {2, 4, 8}, {1 << 62, -1, 512, 511}, numbers, make([]int, 9), make([]int, 10), make([]int, 100), slices.Repeat([]int{-1}, 1000)}
	for _, a := range lists {
		for _, b := range lists {
			for _, n := range numbers {
				for _, set := range []int{0, 1, n} {
					checkMemory(t, a, b, n, set)
				}
			}
		}
	}
	for _, n := range numbers {
		depth.Cap(api.Mutex{Size: n})
		depth.Cap(api.Mutex{Size: n, Reentrant: true})
		for _, set := range numbers {
			depth.Has(set, n)
		}
	}
}

func FuzzCompose(f *testing.F) { // P14.1 to P14.4
	f.Add(1, 3, 2, []byte{2, 0, 0, 0, 0, 0, 1, 0})
	f.Add(8, 511, 256, []byte{255, 1, 2, 3, 4, 5, 6, 7, 8, 9, 0, 1})
	f.Fuzz(func(t *testing.T, limit, set, other int, sets []byte) {
		limit = (limit%9 + 9) % 9
		full := depth.Full(limit)
		var three [3][]int
		for n := range three {
			for range limit + 1 {
				value := 0
				if len(sets) > 1 {
					value, sets = (int(sets[0])<<8|int(sets[1]))&full, sets[2:]
				}
				three[n] = append(three[n], value)
			}
		}
		a, b := three[0], three[1]
		compareSet(t, set&511)
		compareApply(t, a, pairsOf(a), set&511)
		compareBoth(t, a, b, pairsOf(a), pairsOf(b))
		laws(t, a, b, three[2], set&511, other&511)
		checkMemory(t, a, b, limit, set)
	})
}
