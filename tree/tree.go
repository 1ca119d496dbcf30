// Package tree has trees over whatever can be joined.
package tree

import "math/bits"

// Node is what stands in a tree. Empty is asked of the zero value of T too: it is the top of a tree without leaves.
type Node[T any] interface {
	Join(right T) T
	Empty() T
}

// Tree is the list of a tree's leaves.
type Tree[T Node[T]] []T

// Top gives what comes of joining the leaves.
func (t Tree[T]) Top() T {
	switch len(t) {
	case 0:
		var node T
		return node.Empty()
	case 1:
		return t[0]
	}
	left, right := t.halves()
	return left.Top().Join(right.Top())
}

// Path gives what the leaf with the number i is joined with on its way to the top. There must be such a leaf.
func (t Tree[T]) Path(i int) []T {
	if len(t) == 1 {
		return nil
	}
	left, right := t.halves()
	if i < len(left) {
		return append(left.Path(i), right.Top())
	}
	return append(right.Path(i-len(left)), left.Top())
}

func (t Tree[T]) halves() (left Tree[T], right Tree[T]) {
	first := leftSize(len(t))
	return t[:first], t[first:]
}

// Climb gives the top that comes of the leaf with the number i among n and of its path.
// It is not ok if there is no such leaf, or if its path has more or fewer entries.
func Climb[T Node[T]](n int, i int, leaf T, path []T) (top T, ok bool) {
	if i < 0 || i >= n {
		return top, false
	}
	ahead := sides(n, i)
	if len(path) != len(ahead) {
		return top, false
	}
	top = leaf
	for at, other := range path {
		if ahead[at] {
			top = other.Join(top)
		} else {
			top = top.Join(other)
		}
	}
	return top, true
}

// sides tells for each entry of the path of i among n whether it is joined ahead of what lies on the way.
// It hangs on the numbers alone, so that a path is held against a tree of which nobody has the leaves.
func sides(n int, i int) []bool {
	if n == 1 {
		return nil
	}
	first := leftSize(n)
	if i < first {
		return append(sides(first, i), false)
	}
	return append(sides(n-first, i-first), true)
}

// leftSize gives the greatest power of two below n, which must be at least 2.
func leftSize(n int) int {
	return 1 << (bits.Len(uint(n-1)) - 1)
}
