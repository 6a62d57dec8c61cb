package tree

import "iter"

// node is a key and its thing, atop of lesser keys and of greater ones.
type node[V any] struct {
	key         string
	thing       V
	left, right *node[V]
	size        int // how many nodes there are, this one and those below
	height      int // how many of them stand one under the other at most
	lot         int
	least       int // the lowest lot of this node and of those below
}

func size[V any](n *node[V]) int {
	if n == nil {
		return 0
	}
	return n.size
}

func height[V any](n *node[V]) int {
	if n == nil {
		return 0
	}
	return n.height
}

// find is the node of a key, or nil.
func find[V any](n *node[V], key string) *node[V] {
	for n != nil && n.key != key {
		if key < n.key {
			n = n.left
		} else {
			n = n.right
		}
	}
	return n
}

// nodes tells those whose keys do not come ahead of key, as their keys rise.
func nodes[V any](n *node[V], key string) iter.Seq[*node[V]] {
	return func(yield func(*node[V]) bool) {
		if n == nil {
			return
		}
		if n.key >= key {
			for m := range nodes(n.left, key) {
				if !yield(m) {
					return
				}
			}
			if !yield(n) {
				return
			}
		}
		for m := range nodes(n.right, key) {
			if !yield(m) {
				return
			}
		}
	}
}

// put is n, and the node one in it, in place of one of the same key.
func put[V any](n, one *node[V]) *node[V] {
	switch {
	case n == nil:
		return one
	case one.key < n.key:
		return over(put(n.left, one), n, n.right)
	case one.key > n.key:
		return over(n.left, n, put(n.right, one))
	}
	return atop(n.left, one, n.right)
}

// cut is n without the node of a key, which is there.
func cut[V any](n *node[V], key string) *node[V] {
	switch {
	case key < n.key:
		return over(cut(n.left, key), n, n.right)
	case key > n.key:
		return over(n.left, n, cut(n.right, key))
	}
	return build(gather(gather(nil, n.left), n.right))
}
