package tree

// beyond is more than each lot.
const beyond = 1 << 32

// lot is a key's, from 0 on and below beyond: one key's tells nothing of
// another's, be they ever so like.
func lot(key string) int {
	h := uint64(0xcbf29ce484222325)
	for i := range len(key) {
		h = (h ^ uint64(key[i])) * 0x100000001b3
	}
	// The last bytes did not come to all bits yet: the lots of numbers that follow
	// one another would rise as they do.
	h = (h ^ h>>33) * 0xff51afd7ed558ccd
	h = (h ^ h>>33) * 0xc4ceb9fe1a85ec53
	return int(h >> 32)
}

// middle is which of n keys may stand atop, by how many come ahead: from the
// first number on and below the second. So no side has more than two thirds of
// the keys, and the height is at most that of chapter 9.
func middle(n int) (int, int) { return n / 3, n - n/3 }

// single is a node with none below.
func single[V any](key string, v V) *node[V] {
	return atop(nil, &node[V]{key: key, thing: v, lot: lot(key)}, nil)
}

// atop is the node top with others below, whatever shape that is.
func atop[V any](left, top, right *node[V]) *node[V] {
	return &node[V]{
		key: top.key, thing: top.thing, left: left, right: right,
		size: size(left) + 1 + size(right), height: 1 + max(height(left), height(right)),
		lot: top.lot, least: min(top.lot, leastAll(left), leastAll(right)),
	}
}

// over is all nodes of left, top and right, in their shape; left and right are.
func over[V any](left, top, right *node[V]) *node[V] {
	if mayStand(left, top, right) {
		return atop(left, top, right)
	}
	return build(gather(append(gather(nil, left), top), right))
}

// mayStand tells whether of all nodes of left, top and right it is top that
// stands atop: of equal lots the first one's.
func mayStand[V any](left, top, right *node[V]) bool {
	at := size(left)
	from, to := middle(at + 1 + size(right))
	if at < from || at >= to {
		return false
	}
	return top.lot < least(left, from, to) && top.lot <= least(right, from-at-1, to-at-1)
}

// leastAll is the lowest lot of n and of those below.
func leastAll[V any](n *node[V]) int { return least(n, 0, size(n)) }

// least is the lowest lot of those of n ahead of which at least from and fewer
// than to of its nodes come; beyond, if there are none.
func least[V any](n *node[V], from, to int) int {
	switch {
	case n == nil || from >= n.size || to <= 0:
		return beyond
	case from <= 0 && n.size <= to:
		return n.least
	}
	at := size(n.left)
	low := min(least(n.left, from, to), least(n.right, from-at-1, to-at-1))
	if from <= at && at < to {
		low = min(low, n.lot)
	}
	return low
}

// gather puts n and those below behind l, as their keys rise.
func gather[V any](l []*node[V], n *node[V]) []*node[V] {
	if n == nil {
		return l
	}
	return gather(append(gather(l, n.left), n), n.right)
}

// build is the nodes of l, whose keys rise, in their shape.
func build[V any](l []*node[V]) *node[V] {
	if len(l) == 0 {
		return nil
	}
	from, to := middle(len(l))
	top := from
	for i := from; i < to; i++ {
		if l[i].lot < l[top].lot {
			top = i
		}
	}
	return atop(build(l[:top]), l[top], build(l[top+1:]))
}
