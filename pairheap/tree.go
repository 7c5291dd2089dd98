package pairheap

import (
	"iter"
	"slices"
)

// node is one of a tree in which none is before the one above it.
type node[V any] struct {
	value V
	// first is the leftmost one right below it, and beside the one to its right.
	first, beside *node[V]
	// back is the one to its left or, of the leftmost one, the one above: so one
	// can leave from amidst the others without a search.
	back *node[V]
}

// melded is one tree of two, of which each may be nil: the one whose top is
// later stands below the other one's top.
func melded[V any](a, b *node[V], compare func(V, V) int) *node[V] {
	if a == nil {
		return b
	}
	if b == nil {
		return a
	}
	if compare(b.value, a.value) < 0 {
		a, b = b, a
	}
	a.bear(b)
	return a
}

// gathered is one tree of all that stood below a node, nil if nothing did:
// melded two and two, from the left, and then all, from the right.
func gathered[V any](n *node[V], compare func(V, V) int) (all *node[V]) {
	var pairs []*node[V]
	defer func() {
		for _, pair := range slices.Backward(pairs) {
			all = melded(all, pair, compare)
		}
	}()
	var single *node[V]
	for x := range n.below() {
		x.leave()
		if single == nil {
			single = x
			continue
		}
		pairs, single = append(pairs, melded(single, x, compare)), nil
	}
	// Of an odd number the rightmost one stays single: with it the way from the
	// right begins.
	return single
}

// bear sets a tree below n, as the leftmost one.
func (n *node[V]) bear(x *node[V]) {
	x.back, x.beside = n, n.first
	if n.first != nil {
		n.first.back = x
	}
	n.first = x
}

// leave takes n, with all that stands below it, out of the tree it stands in.
func (n *node[V]) leave() {
	if n.beside != nil {
		n.beside.back = n.back
	}
	if n.back != nil {
		if n.back.first == n {
			n.back.first = n.beside
		} else {
			n.back.beside = n.beside
		}
	}
	n.back, n.beside = nil, nil
}

// below are those right below n, from the left.
func (n *node[V]) below() iter.Seq[*node[V]] {
	return func(yield func(*node[V]) bool) {
		for x := n.first; x != nil; {
			// One that is told may leave: then it no longer knows who is beside it.
			next := x.beside
			if !yield(x) {
				return
			}
			x = next
		}
	}
}
