package tree

import (
	"brushwood/api"
	"brushwood/weigh"
)

// times is how many times the lesser weight the greater one may be, where weigh can't be asked.
const times = 3

// node is a tree of two that are even, and a pair between them.
func node(l *Tree, p kept, r *Tree) *Tree {
	return &Tree{kept: p, left: l, right: r, below: l.Size() + r.Size()}
}

// join is Join of a pair that is kept already.
func join(l *Tree, p kept, r *Tree) *Tree {
	switch {
	case even(l.Size(), r.Size()):
		return node(l, p, r)
	case l.Size() > r.Size():
		return overRight(l.left, l.kept, join(l.right, p, r))
	}
	return overLeft(join(l, p, r.left), r.kept, r.right)
}

// overRight is a tree of two, of which the right one may be too heavy by what was joined to it.
func overRight(l *Tree, p kept, r *Tree) *Tree {
	if even(l.Size(), r.Size()) {
		return node(l, p, r)
	}
	inner := r.left
	if single(l.Size(), inner.Size(), r.right.Size()) {
		return node(node(l, p, inner), r.kept, r.right)
	}
	return node(node(l, p, inner.left), inner.kept, node(inner.right, r.kept, r.right))
}

// overLeft is a tree of two, of which the left one may be too heavy by what was joined to it.
func overLeft(l *Tree, p kept, r *Tree) *Tree {
	if even(l.Size(), r.Size()) {
		return node(l, p, r)
	}
	inner := l.right
	if single(r.Size(), inner.Size(), l.left.Size()) {
		return node(l.left, l.kept, node(inner, p, r))
	}
	return node(node(l.left, l.kept, inner.left), inner.kept, node(inner.right, p, r))
}

// even tells whether two sizes are, also above MaxPairs: weigh counts those as MaxPairs, but two trees that have together more pairs than a map may be joined.
func even(l, r int) bool {
	least, most := min(l, r), max(l, r)
	if most <= api.MaxPairs {
		return weigh.Even(least, most)
	}
	return most+1 <= times*(least+1)
}

// single tells whether one turn makes a node even, also above MaxPairs.
func single(l, inner, outer int) bool {
	if max(l, inner, outer) <= api.MaxPairs {
		return weigh.Single(l, inner, outer)
	}
	return even(l, inner) && even(l+inner+1, outer)
}
