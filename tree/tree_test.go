package tree_test

import (
	"fmt"
	"math"
	"math/bits"
	"math/rand/v2"
	"slices"
	"strings"
	"testing"

	"pantograph/tree"
)

// keysOf is all keys of a tree, as From tells them.
func keysOf[V any](t *tree.Tree[V]) []string {
	var l []string
	for k := range t.From("") {
		l = append(l, k)
	}
	return l
}

// of is a tree of some keys, put in their row; each one's thing is its length.
func of(l ...string) *tree.Tree[int] {
	t := tree.New[int]()
	for _, k := range l {
		t.Put(k, len(k))
	}
	return t
}

// bound is the most that Height may tell of so many keys.
func bound(n int) int { return 2 * bits.Len(uint(n)+1) }

// wantHeight checks a tree's height against what so many keys allow: a node has
// two others right below it at most.
func wantHeight[V any](t *testing.T, tr *tree.Tree[V]) {
	t.Helper()
	n, h := tr.Len(), tr.Height()
	if h > bound(n) || h < bits.Len(uint(n)) {
		t.Fatalf("Height of %d keys: %d", n, h)
	}
}

// wantKeys checks what keys there are, in all that tells them.
func wantKeys(t *testing.T, tr *tree.Tree[int], l ...string) {
	t.Helper()
	if got := keysOf(tr); !slices.Equal(got, l) {
		t.Errorf("From: %q, not %q", got, l)
	}
	if got := tr.Keys("", math.MaxInt); !slices.Equal(got, l) {
		t.Errorf("Keys: %q, not %q", got, l)
	}
	if tr.Len() != len(l) {
		t.Errorf("Len: %d, not %d", tr.Len(), len(l))
	}
	for _, k := range l {
		if _, ok := tr.Get(k); !ok {
			t.Errorf("Get: nothing stands at %q", k)
		}
	}
	wantHeight(t, tr)
}

// P9.1: a new tree has no keys.
func TestNew(t *testing.T) {
	tr := tree.New[string]()
	if tr.Len() != 0 || tr.Height() != 0 {
		t.Errorf("Len, Height: %d, %d", tr.Len(), tr.Height())
	}
	if l := tr.Keys("", 9); len(l) != 0 {
		t.Errorf("Keys: %q", l)
	}
	for k, v := range tr.From("") {
		t.Errorf("From: %q, %q", k, v)
	}
	for _, k := range []string{"", "a"} {
		if v, ok := tr.Get(k); v != "" || ok {
			t.Errorf("Get of %q: %q, %t", k, v, ok)
		}
		if tr.Cut(k) {
			t.Errorf("Cut of %q: true", k)
		}
	}
	if c := tr.Clone(); c.Len() != 0 || c.Height() != 0 || c.Put("a", "") || tr.Len() != 0 {
		t.Error("Clone: keys")
	}
}

// P9.1: two trees have nothing of each other.
func TestTwo(t *testing.T) {
	a, b := of("a"), of()
	b.Put("b", 7)
	wantKeys(t, a, "a")
	wantKeys(t, b, "b")
}

// P9.1: a thing stands at a key, instead of what stood there.
func TestPut(t *testing.T) {
	tr := tree.New[int]()
	for i, c := range []struct {
		key string
		had bool
	}{
		{"b", false}, {"a", false}, {"b", true}, {"", false}, {"", true}, {"c", false}, {"aa", false}, {"a", true}, {"c", true}, {"A", false}, {"a\x00", false}, {"\xff", false}, {"\xff", true},
	} {
		if had := tr.Put(c.key, i+1); had != c.had {
			t.Errorf("Put %d of %q: %t", i+1, c.key, had)
		}
		if v, ok := tr.Get(c.key); v != i+1 || !ok {
			t.Errorf("Get of %q: %d, %t", c.key, v, ok)
		}
	}
	for k, v := range map[string]int{"": 5, "A": 10, "a": 8, "a\x00": 11, "aa": 7, "b": 3, "c": 9, "\xff": 13} {
		if got, ok := tr.Get(k); got != v || !ok {
			t.Errorf("Get of %q: %d, %t", k, got, ok)
		}
	}
	wantKeys(t, tr, "", "A", "a", "a\x00", "aa", "b", "c", "\xff")
	for _, k := range []string{"B", "a\x01", "ab", "\x00", "cc", "\xff\xff", "\xfe"} {
		if v, ok := tr.Get(k); v != 0 || ok {
			t.Errorf("Get of %q: %d, %t", k, v, ok)
		}
	}
}

// P9.1: the zero thing that stands at a key is told from none.
func TestZero(t *testing.T) {
	tr := tree.New[int]()
	if tr.Put("a", 0) || !tr.Put("a", 0) {
		t.Error("Put: another answer")
	}
	if v, ok := tr.Get("a"); v != 0 || !ok {
		t.Errorf("Get: %d, %t", v, ok)
	}
	if !tr.Cut("a") || tr.Cut("a") {
		t.Error("Cut: another answer")
	}
	if v, ok := tr.Get("a"); v != 0 || ok {
		t.Errorf("Get: %d, %t", v, ok)
	}
}

// P9.1: nothing stands at a key that was cut, and all else stands.
func TestCut(t *testing.T) {
	l := []string{"", "a", "b", "ba", "c", "d", "e", "f", "g"}
	for i, k := range l {
		tr := of(l...)
		for _, no := range []string{"A", "bb", "z", "\xff", "a\x00"} {
			if tr.Cut(no) {
				t.Errorf("Cut of %q: true", no)
			}
		}
		wantKeys(t, tr, l...)
		if !tr.Cut(k) || tr.Cut(k) {
			t.Errorf("Cut of %q: another answer", k)
		}
		if v, ok := tr.Get(k); v != 0 || ok {
			t.Errorf("Get of %q: %d, %t", k, v, ok)
		}
		wantKeys(t, tr, slices.Delete(slices.Clone(l), i, i+1)...)
		if tr.Put(k, 4) {
			t.Errorf("Put of %q: true", k)
		}
		if v, ok := tr.Get(k); v != 4 || !ok {
			t.Errorf("Get of %q: %d, %t", k, v, ok)
		}
		wantKeys(t, tr, l...)
	}
}

// P9.1: a tree may be emptied, and filled again.
func TestEmptied(t *testing.T) {
	tr := of("b", "a", "c")
	for _, k := range []string{"c", "a", "b"} {
		if !tr.Cut(k) {
			t.Errorf("Cut of %q: false", k)
		}
	}
	wantKeys(t, tr)
	if tr.Height() != 0 {
		t.Errorf("Height: %d", tr.Height())
	}
	tr.Put("d", 1)
	wantKeys(t, tr, "d")
}

// P9.2: Keys tells the first keys behind one, at most so many.
func TestKeys(t *testing.T) {
	tr := of("b", "", "d", "a", "c", "bb", "\xff")
	all := []string{"", "a", "b", "bb", "c", "d", "\xff"}
	for _, c := range []struct {
		after string
		first int // of all keys, the first one that comes behind
	}{
		{"", 0}, {"\x00", 1}, {"A", 1}, {"a", 2}, {"a\x00", 2}, {"b", 3}, {"ba", 3}, {"bb", 4}, {"bbb", 4}, {"c", 5}, {"d", 6}, {"dd", 6}, {"\xfe\xff", 6}, {"\xff", 7}, {"\xff\x00", 7}, {"\xff\xff", 7},
	} {
		for _, most := range []int{math.MinInt, -7, -1, 0, 1, 2, 3, 4, 5, 6, 7, 8, 100, math.MaxInt} {
			l := all[c.first:]
			l = l[:min(len(l), max(most, 0))]
			if got := tr.Keys(c.after, most); !slices.Equal(got, l) {
				t.Errorf("Keys of %q and %d: %q, not %q", c.after, most, got, l)
			}
		}
	}
}

// P9.2: without the empty key there is none of it.
func TestKeysWithoutEmpty(t *testing.T) {
	tr := of("b", "a", "c")
	if l := tr.Keys("", 2); !slices.Equal(l, []string{"a", "b"}) {
		t.Errorf("Keys: %q", l)
	}
	wantKeys(t, tr, "a", "b", "c")
}

// P9.2: From tells all keys that do not come ahead of one, and their things.
func TestFrom(t *testing.T) {
	tr := of("b", "", "d", "a", "ccc", "bb", "\xff")
	all := []string{"", "a", "b", "bb", "ccc", "d", "\xff"}
	for _, from := range []string{"", "\x00", "A", "a", "a\x00", "b", "ba", "bb", "bbb", "c", "ccc", "cccc", "d", "dd", "\xff", "\xff\x00", "\xff\xff"} {
		i := 0
		for i < len(all) && all[i] < from {
			i++
		}
		for k, v := range tr.From(from) {
			if i == len(all) || k != all[i] || v != len(k) {
				t.Fatalf("From of %q: %q, %d", from, k, v)
			}
			i++
		}
		if i != len(all) {
			t.Errorf("From of %q: ends ahead of %q", from, all[i])
		}
	}
}

// P9.2: whoever has had enough of From leaves it.
func TestFromLeft(t *testing.T) {
	var all []string
	for i := range 40 {
		all = append(all, fmt.Sprintf("%02d", i))
	}
	tr := of(all...)
	for from := range all {
		for most := 1; from+most <= len(all); most++ {
			var l []string
			for k := range tr.From(all[from]) {
				if l = append(l, k); len(l) == most {
					break
				}
			}
			if !slices.Equal(l, all[from:from+most]) {
				t.Fatalf("From of %q, left: %q", all[from], l)
			}
		}
	}
	wantKeys(t, tr, all...)
}

// P9.2: From tells what there is when it is gone through, each time.
func TestFromLater(t *testing.T) {
	tr := of()
	seq := tr.From("b")
	tell := func() string {
		s := ""
		for k, v := range seq {
			s += fmt.Sprint(k, v, " ")
		}
		return s
	}
	if s := tell(); s != "" {
		t.Errorf("From: %s", s)
	}
	tr.Put("c", 1)
	tr.Put("a", 2)
	if s := tell(); s != "c1 " {
		t.Errorf("From: %s", s)
	}
	tr.Put("b", 3)
	tr.Put("c", 4)
	if s := tell(); s != "b3 c4 " {
		t.Errorf("From: %s", s)
	}
	tr.Cut("b")
	tr.Put("d", 5)
	if s := tell() + tell(); s != "c4 d5 c4 d5 " {
		t.Errorf("From: %s", s)
	}
}

// P9.2: a tree may be gone through within itself, and that changes nothing.
func TestFromWithin(t *testing.T) {
	tr := of("a", "b", "c", "d")
	s := ""
	for k := range tr.From("b") {
		s += k + ":"
		for m := range tr.From(k) {
			s += m
		}
	}
	if s != "b:bcdc:cdd:d" {
		t.Errorf("From: %s", s)
	}
	wantKeys(t, tr, "a", "b", "c", "d")
}

// P9.3: a clone has the same, and neither hangs on the other.
func TestClone(t *testing.T) {
	l := []string{"", "a", "b", "c", "d", "e", "f"}
	for _, k := range l {
		tr := of(l...)
		c := tr.Clone()
		wantKeys(t, c, l...)
		if c.Height() != tr.Height() {
			t.Errorf("Height: %d, not %d", c.Height(), tr.Height())
		}
		tr.Cut(k)
		tr.Put("z", 9)
		tr.Put("c", 50)
		wantKeys(t, c, l...)
		if v, ok := c.Get("c"); v != 1 || !ok {
			t.Errorf("Get: %d, %t", v, ok)
		}

		tr = of(l...)
		c = tr.Clone()
		d := c.Clone()
		c.Cut(k)
		c.Put("z", 9)
		c.Put("c", 50)
		for _, same := range []*tree.Tree[int]{tr, d} {
			wantKeys(t, same, l...)
			if v, ok := same.Get("c"); v != 1 || !ok {
				t.Errorf("Get: %d, %t", v, ok)
			}
		}
		if v, ok := c.Get("c"); v != 50 || !ok {
			t.Errorf("Get: %d, %t", v, ok)
		}
	}
}

// P9.3: a clone hangs on no other, while that one is changed at every key.
func TestCloneLong(t *testing.T) {
	r := rand.New(rand.NewPCG(9, 3))
	tr := tree.New[int]()
	var clones []*tree.Tree[int]
	var told []string
	for i := range 400 {
		k := fmt.Sprint(r.IntN(90))
		if r.IntN(3) == 0 {
			tr.Cut(k)
		} else {
			tr.Put(k, i)
		}
		clones = append(clones, tr.Clone())
		told = append(told, tell(tr))
	}
	for i, c := range clones {
		if got := tell(c); got != told[i] {
			t.Fatalf("clone %d: %s, not %s", i, got, told[i])
		}
	}
}

// tell is all that a tree tells, as a text.
func tell(tr *tree.Tree[int]) string {
	var s strings.Builder
	fmt.Fprint(&s, tr.Len(), " ", tr.Height())
	for k, v := range tr.From("") {
		fmt.Fprintf(&s, " %q:%d", k, v)
	}
	fmt.Fprintf(&s, " %q", tr.Keys("", math.MaxInt))
	return s.String()
}

// P9.3: the height of few keys is what so many nodes must have.
func TestHeight(t *testing.T) {
	for n, h := range []int{0, 1, 2, 2, 3, 3, 3} {
		var l []string
		for i := range n {
			l = append(l, fmt.Sprint(i))
		}
		if got := of(l...).Height(); got != h {
			t.Errorf("Height of %d keys: %d, not %d", n, got, h)
		}
	}
}

// P9.3: the height stays within its bound, in whatever row keys come and go.
func TestBound(t *testing.T) {
	const n = 3000
	r := rand.New(rand.NewPCG(9, 4))
	perm := r.Perm(n)
	rows := map[string]func(i int) int{
		"rising":        func(i int) int { return i },
		"falling":       func(i int) int { return n - 1 - i },
		"both ends":     func(i int) int { return i/2 + (i%2)*(n-1-2*(i/2)) },
		"mixed":         func(i int) int { return perm[i] },
		"by their bits": func(i int) int { return int(bits.Reverse16(uint16(i))) },
	}
	forms := map[string]func(i int) string{
		"eight bytes": func(i int) string { return string([]byte{2, 128, 0, 0, 0, 0, 0, byte(i >> 8), byte(i)}) },
		"decimals":    func(i int) string { return fmt.Sprint(i) },
		"long":        func(i int) string { return strings.Repeat("a", i%70) + fmt.Sprint(i) },
	}
	for row, at := range rows {
		for form, key := range forms {
			tr := tree.New[int]()
			for i := range n {
				tr.Put(key(at(i)), i)
				wantHeight(t, tr)
			}
			if tr.Len() != n {
				t.Fatalf("%s, %s: %d keys", row, form, tr.Len())
			}
			for i := range n {
				tr.Cut(key(at((i*7 + 5) % n)))
				wantHeight(t, tr)
			}
			if tr.Len() != 0 {
				t.Fatalf("%s, %s: %d keys are left", row, form, tr.Len())
			}
		}
	}
}

// orders calls f with l in each of its orders.
func orders(l []string, f func([]string)) {
	var swap func(i int)
	swap = func(i int) {
		if i == len(l) {
			f(l)
			return
		}
		for j := i; j < len(l); j++ {
			l[i], l[j] = l[j], l[i]
			swap(i + 1)
			l[i], l[j] = l[j], l[i]
		}
	}
	swap(0)
}

// P9.4: in whatever row the keys came, the same is told.
func TestOrders(t *testing.T) {
	all := []string{"", "a", "ab", "b", "c", "ca", "d", "\xff"}
	for n := range len(all) + 1 {
		one := tell(of(all[:n]...))
		orders(slices.Clone(all[:n]), func(l []string) {
			if got := tell(of(l...)); got != one {
				t.Fatalf("of %q: %s, not %s", l, got, one)
			}
		})
	}
}

// P9.4: nor does what is told hang on keys that are gone again, or on what stood
// at a key.
func TestGone(t *testing.T) {
	stay, gone := []string{"a", "c", "e", "g"}, []string{"b", "d", "f"}
	one := tell(of(stay...))
	orders(append(slices.Clone(stay), gone...), func(l []string) {
		tr := tree.New[int]()
		for _, k := range l {
			tr.Put(k, 77)
		}
		for _, k := range l {
			if slices.Contains(gone, k) {
				tr.Cut(k)
			} else {
				tr.Put(k, len(k))
			}
		}
		if got := tell(tr); got != one {
			t.Fatalf("of %q: %s, not %s", l, got, one)
		}
	})
}

// P9.4: the same of many keys, that came and went in long rows.
func TestLongRows(t *testing.T) {
	r := rand.New(rand.NewPCG(9, 5))
	heights := map[int]int{}
	for range 60 {
		n := 1 + r.IntN(700)
		a, b := tree.New[int](), tree.New[int]()
		key := func(i int) string { return fmt.Sprint(i * i) }
		for _, i := range r.Perm(n + 300) {
			a.Put(key(i), i)
		}
		for _, i := range r.Perm(n + 300) {
			if i >= n {
				a.Cut(key(i))
			}
		}
		for i := range n {
			b.Put(key(i), i)
		}
		if got, one := tell(a), tell(b); got != one {
			t.Fatalf("of %d keys: %s, not %s", n, got, one)
		}
		heights[a.Height()]++
	}
	if len(heights) < 2 {
		t.Error("all of one height: nothing was tried")
	}
}

// page is a tree on paper: pairs, as their keys rise.
type page []struct {
	key string
	v   int
}

func (p page) at(key string) (int, bool) {
	for i, x := range p {
		if x.key >= key {
			return i, x.key == key
		}
	}
	return len(p), false
}

// step does to a tree and on paper what a number tells, and checks the answers.
func step(t *testing.T, tr *tree.Tree[int], p page, key string, v int) page {
	i, had := p.at(key)
	if v < 0 {
		if got := tr.Cut(key); got != had {
			t.Fatalf("Cut of %q: %t", key, got)
		}
		if had {
			p = slices.Delete(slices.Clone(p), i, i+1)
		}
		return p
	}
	if got := tr.Put(key, v); got != had {
		t.Fatalf("Put of %q: %t", key, got)
	}
	p = slices.Clone(p)
	if !had {
		p = slices.Insert(p, i, struct {
			key string
			v   int
		}{key, v})
	}
	p[i].v = v
	return p
}

// same checks that a tree tells what stands on paper.
func (p page) same(t *testing.T, tr *tree.Tree[int], asked []string) {
	t.Helper()
	var l []string
	i := 0
	for k, v := range tr.From("") {
		if i == len(p) || p[i].key != k || p[i].v != v {
			t.Fatalf("From: %q, %d; on paper: %v", k, v, p)
		}
		l = append(l, k)
		i++
	}
	if i != len(p) || tr.Len() != len(p) {
		t.Fatalf("From: %d, Len: %d; on paper: %v", i, tr.Len(), p)
	}
	for _, k := range asked {
		at, had := p.at(k)
		v, ok := tr.Get(k)
		if ok != had || had && v != p[at].v || !had && v != 0 {
			t.Fatalf("Get of %q: %d, %t; on paper: %v", k, v, ok, p)
		}
		if had && k != "" {
			at++
		}
		for most := range 4 {
			if got := tr.Keys(k, most); !slices.Equal(got, l[at:min(at+most, len(l))]) {
				t.Fatalf("Keys of %q and %d: %q; on paper: %v", k, most, got, p)
			}
		}
	}
	wantHeight(t, tr)
}

// P9.1, P9.2: all rows of up to five calls on four keys.
func TestAllCalls(t *testing.T) {
	keys := []string{"", "a", "ab", "b"}
	var calls func(tr *tree.Tree[int], p page, depth int)
	calls = func(tr *tree.Tree[int], p page, depth int) {
		p.same(t, tr, []string{"", "\x00", "a", "aa", "ab", "b", "c"})
		if depth == 5 {
			return
		}
		for _, k := range keys {
			for _, v := range []int{-1, depth} {
				c := tr.Clone()
				calls(c, step(t, c, p, k, v), depth+1)
			}
		}
	}
	calls(tree.New[int](), nil, 0)
}

// P9.1, P9.2: long rows of calls on many keys.
func TestPaper(t *testing.T) {
	r := rand.New(rand.NewPCG(9, 6))
	for round := range 20 {
		many := 1 << (round % 10)
		tr, p := tree.New[int](), page(nil)
		for i := range 600 {
			key := fmt.Sprintf("%x", r.IntN(many))
			v := i
			if r.IntN(5) < 2 {
				v = -1
			}
			p = step(t, tr, p, key, v)
			if i%20 == 0 {
				p.same(t, tr, []string{"", "0", "7", key, key + "!", "ff", "g"})
			}
		}
	}
}

// P9.1: things may be of any type.
func TestThings(t *testing.T) {
	rows := tree.New[[]int]()
	rows.Put("a", []int{1, 2})
	if v, ok := rows.Get("a"); !ok || !slices.Equal(v, []int{1, 2}) {
		t.Errorf("Get: %v, %t", v, ok)
	}
	if v, ok := rows.Get("b"); ok || v != nil {
		t.Errorf("Get: %v, %t", v, ok)
	}
	pairs := tree.New[struct{ a, b string }]()
	pairs.Put("a", struct{ a, b string }{"x", "y"})
	if v, _ := pairs.Get("a"); v.a != "x" || v.b != "y" {
		t.Errorf("Get: %v", v)
	}
	none := tree.New[any]()
	none.Put("a", nil)
	if v, ok := none.Get("a"); v != nil || !ok {
		t.Errorf("Get: %v, %t", v, ok)
	}
	trees := tree.New[*tree.Tree[int]]()
	inner := of("x")
	trees.Put("a", inner)
	if v, _ := trees.Clone().Get("a"); v != inner {
		t.Error("Get: another thing")
	}
	funcs := tree.New[func() int]()
	funcs.Put("a", func() int { return 7 })
	if v, _ := funcs.Get("a"); v() != 7 {
		t.Error("Get: another thing")
	}
}

// R4: what Keys answers is new memory.
func TestMemory(t *testing.T) {
	tr := of("a", "b", "c")
	one, two := tr.Keys("", 3), tr.Keys("", 3)
	one[0] = "z"
	_ = append(one[:1], "y")
	if !slices.Equal(two, []string{"a", "b", "c"}) {
		t.Errorf("Keys: %q", two)
	}
	wantKeys(t, tr, "a", "b", "c")
}

// The chapter's example.
func TestExample(t *testing.T) {
	if l := of("b", "a", "c").Keys("a", 5); !slices.Equal(l, []string{"b", "c"}) {
		t.Errorf("Keys: %q", l)
	}
}
