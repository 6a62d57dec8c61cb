package tree

import (
	"fmt"
	"math/bits"
	"math/rand/v2"
	"slices"
	"testing"
)

// worst is the greatest height of so many nodes, a side having as many as it may.
func worst(n int) int {
	h := 0
	for ; n > 0; h++ {
		from, to := middle(n)
		n = max(to-1, n-1-from)
	}
	return h
}

// P9.3: wherever in the middle a node stands, the height is within its bound. A
// greater number has no lesser height, so of those of so many digits the
// greatest tells for all.
func TestMiddle(t *testing.T) {
	for n := 1; n < 100000; n++ {
		from, to := middle(n)
		if from < 0 || from >= to || to > n {
			t.Fatalf("middle of %d: %d, %d", n, from, to)
		}
		if worst(n) < worst(n-1) || worst(n) > 2*bits.Len(uint(n)+1) {
			t.Fatalf("height of %d: %d", n, worst(n))
		}
	}
	for k := 1; k < 62; k++ {
		if n := 1<<k - 2; worst(n) > 2*k {
			t.Errorf("height of %d: %d", n, worst(n))
		}
	}
}

// check goes through all nodes, and tells how many stand one under the other.
func check[V any](t *testing.T, n *node[V]) int {
	t.Helper()
	if n == nil {
		return 0
	}
	l := gather(nil, n)
	least := beyond
	for i, m := range l {
		least = min(least, m.lot)
		if i > 0 && l[i-1].key >= m.key {
			t.Fatalf("%q stands ahead of %q", l[i-1].key, m.key)
		}
	}
	height := 1 + max(check(t, n.left), check(t, n.right))
	if n.size != len(l) || n.height != height || n.least != least {
		t.Fatalf("at %q: %d, %d, %d, not %d, %d, %d", n.key, n.size, n.height, n.least, len(l), height, least)
	}
	return height
}

// shape is how nodes stand, as a text.
func shape[V any](n *node[V]) string {
	if n == nil {
		return "."
	}
	return "(" + shape(n.left) + n.key + shape(n.right) + ")"
}

// P9.3: Height tells how many nodes stand one under the other.
func TestDepth(t *testing.T) {
	r := rand.New(rand.NewPCG(9, 1))
	for range 40 {
		tr := New[int]()
		for i := range 150 {
			key := fmt.Sprint(r.IntN(100))
			if r.IntN(3) == 0 {
				tr.Cut(key)
			} else {
				tr.Put(key, i)
			}
			if h := check(t, tr.root); tr.Height() != h {
				t.Fatalf("Height: %d, not %d", tr.Height(), h)
			}
		}
	}
}

// P9.4: whatever lots the keys have, be some the same, the shape hangs on them
// alone, not on the row in which they came, nor on those that are gone again.
func TestLots(t *testing.T) {
	r := rand.New(rand.NewPCG(9, 2))
	for range 400 {
		n, lots := 1+r.IntN(40), 1+r.IntN(12)
		var l []*node[int]
		for i := range n {
			one := &node[int]{key: fmt.Sprintf("%02d", i), lot: r.IntN(lots)}
			if r.IntN(4) == 0 {
				one.lot = beyond - 1
			}
			l = append(l, atop(nil, one, nil))
		}
		stay := slices.DeleteFunc(slices.Clone(l), func(*node[int]) bool { return r.IntN(3) == 0 })
		var root *node[int]
		for _, i := range r.Perm(n) {
			root = put(root, l[i])
		}
		for _, i := range r.Perm(n) {
			if !slices.Contains(stay, l[i]) {
				root = cut(root, l[i].key)
			}
		}
		check(t, root)
		if got, one := shape(root), shape(build(stay)); got != one {
			t.Fatalf("shape: %s, not %s", got, one)
		}
	}
}

// Keys that are alike have lots that are not: else few nodes would stay where
// they are, and much would be built anew.
func TestLot(t *testing.T) {
	const n = 4096
	below, rising, last := 0, 0, 0
	seen := map[int]int{}
	for i := range n {
		k := lot(string([]byte{2, 128, 0, 0, 0, 0, 0, byte(i >> 8), byte(i)}))
		if k < 0 || k >= beyond {
			t.Fatalf("lot of %d: %d", i, k)
		}
		if k < beyond/2 {
			below++
		}
		if k > last {
			rising++
		}
		last = k
		seen[k]++
	}
	for _, many := range []int{below, rising} {
		if many < n*2/5 || many > n*3/5 {
			t.Errorf("of %d lots %d are low, %d rise", n, below, rising)
		}
	}
	if len(seen) < n-3 {
		t.Errorf("of %d lots %d are different", n, len(seen))
	}
}
