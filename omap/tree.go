package omap

// node is the root of a tree whose keys rise from left to right. A node is never changed once it is made: one who goes through a tree goes through it as it was when he began, whatever is put or taken away meanwhile.
type node[V any] struct {
	key         string
	val         V
	size        int
	left, right *node[V]
}

// Where one side of a node has more than heavy times the keys of the other, it is turned: twice, where the inner part of the heavy side has inner times the keys of the outer one, or more. With these numbers each turn rights the tree (they are those of Adams' balanced trees).
const (
	heavy = 3
	inner = 2
)

func size[V any](n *node[V]) int {
	if n == nil {
		return 0
	}
	return n.size
}

// join is a node with n's key and value.
func join[V any](left, n, right *node[V]) *node[V] {
	return &node[V]{key: n.key, val: n.val, size: size(left) + 1 + size(right), left: left, right: right}
}

// balance is join, where one side may have one key too many or too few.
func balance[V any](left, n, right *node[V]) *node[V] {
	l, r := size(left), size(right)
	switch {
	case l+r < 2:
		return join(left, n, right)
	case r > heavy*l:
		return turnLeft(left, n, right)
	case l > heavy*r:
		return turnRight(left, n, right)
	}
	return join(left, n, right)
}

func turnLeft[V any](left, n, right *node[V]) *node[V] {
	if in := right.left; size(in) >= inner*size(right.right) {
		return join(join(left, n, in.left), in, join(in.right, right, right.right))
	}
	return join(join(left, n, right.left), right, right.right)
}

func turnRight[V any](left, n, right *node[V]) *node[V] {
	if in := left.right; size(in) >= inner*size(left.left) {
		return join(join(left.left, left, in.left), in, join(in.right, n, right))
	}
	return join(left.left, left, join(left.right, n, right))
}

func put[V any](n *node[V], k string, v V) *node[V] {
	switch {
	case n == nil:
		return &node[V]{key: k, val: v, size: 1}
	case k < n.key:
		return balance(put(n.left, k, v), n, n.right)
	case k > n.key:
		return balance(n.left, n, put(n.right, k, v))
	}
	return &node[V]{key: k, val: v, size: n.size, left: n.left, right: n.right}
}

func del[V any](n *node[V], k string) *node[V] {
	switch {
	case n == nil:
		return nil
	case k < n.key:
		return balance(del(n.left, k), n, n.right)
	case k > n.key:
		return balance(n.left, n, del(n.right, k))
	}
	return glue(n.left, n.right)
}

// glue is both sides without what stood between them: a key of the greater side takes its place.
func glue[V any](left, right *node[V]) *node[V] {
	switch {
	case left == nil:
		return right
	case right == nil:
		return left
	case left.size > right.size:
		last := left
		for last.right != nil {
			last = last.right
		}
		return balance(del(left, last.key), last, right)
	}
	first := right
	for first.left != nil {
		first = first.left
	}
	return balance(left, first, del(right, first.key))
}
