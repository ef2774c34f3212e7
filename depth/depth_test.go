package depth_test

import (
	"slices"
	"testing"

	"lockorder/api"
	"lockorder/depth"
)

// The least and the greatest numbers.
const (
	least = -1 << 63
	most  = 1<<63 - 1
)

func TestCap(t *testing.T) { // P14.1
	for _, c := range []struct {
		m    api.Mutex
		want int
	}{
		{api.Mutex{}, 1},
		{api.Mutex{Name: "a"}, 1},
		{api.Mutex{Name: "abcdefghijklmnop"}, 1},
		{api.Mutex{Reentrant: true}, 8},
		{api.Mutex{Name: "a", Reentrant: true}, 8},
		{api.Mutex{Name: "a", Size: 1}, 8},
		{api.Mutex{Size: 2}, 8},
		{api.Mutex{Size: 7}, 8},
		{api.Mutex{Size: 8}, 8},
		{api.Mutex{Size: 9}, 8},
		{api.Mutex{Size: api.MaxElements}, 8},
		{api.Mutex{Reentrant: true, Size: 1}, 8},
	} {
		if n := depth.Cap(c.m); n != c.want {
			t.Errorf("Cap(%v) = %d; want %d", c.m, n, c.want)
		}
	}
}

func TestFull(t *testing.T) { // P14.1
	for limit, want := range []int{1, 3, 7, 15, 31, 63, 127, 255, 511} {
		if set := depth.Full(limit); set != want {
			t.Errorf("Full(%d) = %d; want %d", limit, set, want)
		}
	}
}

func TestHas(t *testing.T) { // P14.1
	for _, c := range []struct {
		set int
		in  []int
	}{
		{0, nil}, {1, []int{0}}, {2, []int{1}}, {5, []int{0, 2}}, {256, []int{8}}, {257, []int{0, 8}}, {510, []int{1, 2, 3, 4, 5, 6, 7, 8}}, {511, []int{0, 1, 2, 3, 4, 5, 6, 7, 8}},
	} {
		for d := -70; d <= 140; d++ {
			if is := depth.Has(c.set, d); is != slices.Contains(c.in, d) {
				t.Errorf("Has(%d, %d) = %v", c.set, d, is)
			}
		}
		for _, d := range []int{least, least + 1, least + 8, -1 << 32, 1 << 32, 1<<32 + 1, 1 << 62, most - 63, most} {
			if depth.Has(c.set, d) {
				t.Errorf("Has(%d, %d) = true", c.set, d)
			}
		}
	}
	for _, set := range []int{-1, most, 512, 1 << 62} { // no sets, but what is no depth is in none
		for _, d := range []int{least, -64, -1, 9, 10, 62, 63, 64, most} {
			if depth.Has(set, d) {
				t.Errorf("Has(%d, %d) = true", set, d)
			}
		}
	}
}

func TestList(t *testing.T) { // P14.1
	for _, c := range []struct {
		set  int
		want []int
	}{
		{0, nil}, {1, []int{0}}, {2, []int{1}}, {3, []int{0, 1}}, {6, []int{1, 2}}, {136, []int{3, 7}}, {256, []int{8}}, {341, []int{0, 2, 4, 6, 8}}, {510, []int{1, 2, 3, 4, 5, 6, 7, 8}}, {511, []int{0, 1, 2, 3, 4, 5, 6, 7, 8}},
	} {
		if l := depth.List(c.set); !slices.Equal(l, c.want) {
			t.Errorf("List(%d) = %v; want %v", c.set, l, c.want)
		}
	}
}

func TestIdentityUpDown(t *testing.T) { // P14.2
	for _, c := range []struct {
		limit              int
		identity, up, down []int
	}{
		{0, []int{1}, []int{0}, []int{0}},
		{1, []int{1, 2}, []int{2, 0}, []int{0, 1}},
		{2, []int{1, 2, 4}, []int{2, 4, 0}, []int{0, 1, 2}},
		{3, []int{1, 2, 4, 8}, []int{2, 4, 8, 0}, []int{0, 1, 2, 4}},
		{7, []int{1, 2, 4, 8, 16, 32, 64, 128}, []int{2, 4, 8, 16, 32, 64, 128, 0}, []int{0, 1, 2, 4, 8, 16, 32, 64}},
		{8, []int{1, 2, 4, 8, 16, 32, 64, 128, 256}, []int{2, 4, 8, 16, 32, 64, 128, 256, 0}, []int{0, 1, 2, 4, 8, 16, 32, 64, 128}},
	} {
		for _, x := range []struct {
			name      string
			got, want []int
		}{
			{"Identity", depth.Identity(c.limit), c.identity}, {"Up", depth.Up(c.limit), c.up}, {"Down", depth.Down(c.limit), c.down},
		} {
			if !slices.Equal(x.got, x.want) {
				t.Errorf("%s(%d) = %v; want %v", x.name, c.limit, x.got, x.want)
			}
		}
	}
}

func TestApply(t *testing.T) { // P14.3
	for _, c := range []struct {
		r         []int
		set, want int
	}{
		{[]int{1}, 0, 0}, {[]int{1}, 1, 1}, {[]int{0}, 1, 0},
		{[]int{2, 0}, 1, 2}, {[]int{2, 0}, 2, 0}, {[]int{2, 0}, 3, 2}, {[]int{3, 1}, 2, 1},
		{[]int{6, 1, 4}, 1, 6}, {[]int{6, 1, 4}, 2, 1}, {[]int{6, 1, 4}, 4, 4}, {[]int{6, 1, 4}, 3, 7}, {[]int{6, 1, 4}, 5, 6}, {[]int{6, 1, 4}, 6, 5},
		{[]int{0, 0, 0, 0, 0, 0, 0, 0, 256}, 256, 256}, {[]int{0, 0, 0, 0, 0, 0, 0, 0, 256}, 255, 0}, {[]int{1, 2, 4, 8, 16, 32, 64, 128, 256}, 511, 511},
		// depths that exceed the limit of the relation, which nothing follows
		{[]int{1}, 2, 0}, {[]int{1}, 510, 0}, {[]int{1}, 511, 1}, {[]int{2, 1}, 4, 0}, {[]int{2, 1}, 257, 2}, {[]int{7, 7, 7}, 504, 0},
	} {
		if set := depth.Apply(c.r, c.set); set != c.want {
			t.Errorf("Apply(%v, %d) = %d; want %d", c.r, c.set, set, c.want)
		}
	}
}

func TestCompose(t *testing.T) { // P14.3
	for _, c := range []struct{ a, b, want []int }{
		{[]int{1}, []int{1}, []int{1}}, {[]int{1}, []int{0}, []int{0}}, {[]int{0}, []int{1}, []int{0}},
		{[]int{2, 0}, []int{0, 1}, []int{1, 0}}, {[]int{0, 1}, []int{2, 0}, []int{0, 2}},
		{[]int{6, 1, 0}, []int{1, 4, 3}, []int{7, 1, 0}}, {[]int{1, 4, 3}, []int{6, 1, 0}, []int{6, 0, 7}},
		{[]int{7, 7, 7}, []int{0, 0, 0}, []int{0, 0, 0}}, {[]int{0, 0, 0}, []int{7, 7, 7}, []int{0, 0, 0}}, {[]int{4, 2, 1}, []int{4, 2, 1}, []int{1, 2, 4}},
		{[]int{256, 0, 0, 0, 0, 0, 0, 0, 1}, []int{2, 0, 0, 0, 0, 0, 0, 0, 128}, []int{128, 0, 0, 0, 0, 0, 0, 0, 2}},
	} {
		if r := depth.Compose(c.a, c.b); !slices.Equal(r, c.want) {
			t.Errorf("Compose(%v, %v) = %v; want %v", c.a, c.b, r, c.want)
		}
	}
}

func TestUnion(t *testing.T) { // P14.3
	for _, c := range []struct{ a, b, want []int }{
		{[]int{1}, []int{1}, []int{1}}, {[]int{1}, []int{0}, []int{1}}, {[]int{0}, []int{1}, []int{1}}, {[]int{0}, []int{0}, []int{0}},
		{[]int{2, 0}, []int{0, 1}, []int{2, 1}}, {[]int{1, 2, 0}, []int{4, 2, 1}, []int{5, 2, 1}}, {[]int{3, 5, 6}, []int{6, 6, 6}, []int{7, 7, 6}},
		{[]int{256, 0, 0, 0, 0, 0, 0, 0, 1}, []int{255, 1, 0, 0, 0, 0, 0, 0, 257}, []int{511, 1, 0, 0, 0, 0, 0, 0, 257}},
	} {
		if r := depth.Union(c.a, c.b); !slices.Equal(r, c.want) {
			t.Errorf("Union(%v, %v) = %v; want %v", c.a, c.b, r, c.want)
		}
	}
}

func TestWithin(t *testing.T) { // P14.3
	for _, c := range []struct {
		a, b []int
		want bool
	}{
		{[]int{0}, []int{0}, true}, {[]int{0}, []int{1}, true}, {[]int{1}, []int{0}, false}, {[]int{1}, []int{1}, true},
		{[]int{1, 0}, []int{3, 0}, true}, {[]int{1, 2}, []int{3, 1}, false}, {[]int{1, 1}, []int{2, 3}, false}, {[]int{1, 1}, []int{1, 2}, false},
		{[]int{1, 2, 4}, []int{7, 7, 7}, true}, {[]int{7, 7, 7}, []int{1, 2, 4}, false}, {[]int{1, 2, 5}, []int{1, 2, 4}, false}, {[]int{5, 2, 4}, []int{4, 2, 4}, false},
		{[]int{0, 0, 0, 0, 0, 0, 0, 0, 256}, []int{0, 0, 0, 0, 0, 0, 0, 0, 255}, false}, {[]int{0, 0, 0, 0, 0, 0, 0, 0, 256}, []int{0, 0, 0, 0, 0, 0, 0, 0, 511}, true},
	} {
		if is := depth.Within(c.a, c.b); is != c.want {
			t.Errorf("Within(%v, %v) = %v", c.a, c.b, is)
		}
	}
}

func TestUpThenDown(t *testing.T) { // P14.4: what is left out is limit only
	for limit := 0; limit <= api.MaxDepth; limit++ {
		want := depth.Identity(limit)
		want[limit] = 0
		if r := depth.Compose(depth.Up(limit), depth.Down(limit)); !slices.Equal(r, want) {
			t.Errorf("Compose(Up(%d), Down(%d)) = %v; want %v", limit, limit, r, want)
		}
		want = depth.Identity(limit)
		want[0] = 0
		if r := depth.Compose(depth.Down(limit), depth.Up(limit)); !slices.Equal(r, want) {
			t.Errorf("Compose(Down(%d), Up(%d)) = %v; want %v", limit, limit, r, want)
		}
	}
}

func TestExample(t *testing.T) { // that of the chapter
	if r := depth.Up(1); !slices.Equal(r, []int{2, 0}) {
		t.Errorf("Up(1) = %v", r)
	}
}
