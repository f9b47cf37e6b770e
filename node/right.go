package node

import (
	"brushwood/api"
	"brushwood/chunk"
)

// way is the numbers of the children through which a node was come to, from a level on.
type way struct {
	from    int
	numbers []int
}

// Right tells whether a node is right at a level.
func Right(n Node, level int) bool {
	return level >= 0 && level <= api.Levels && right(n, way{from: level})
}

// right tells whether a node is right at the level that a way has come to, and the way leads to each hash in it.
// A hash is held against the whole way at once, where it stands, so that no node is gone through for each branch above it. As no hash has two ways, and the first one that is wrong ends all, not even a node that is a child again and again is gone through often.
func right(n Node, w way) bool {
	if h, ok := Hash(n); ok {
		return w.leadsTo(h)
	}
	x, ok := n.(*branch)
	return ok && x.right(w)
}

// right is that of a branch. Branch has seen to it that its set isn't empty, and that each child is a node.
func (x *branch) right(w way) bool {
	if w.level() >= api.Levels || !x.needed() {
		return false
	}
	for c := range x.set.All() {
		kid, _ := Kid(x, c)
		if !right(kid, w.through(c)) {
			return false
		}
	}
	return true
}

// needed tells whether no child could stand in the branch's own place.
func (x *branch) needed() bool {
	return len(x.kids) > 1 || x.kids[0].Kind() == api.Branch
}

// level is the one that a way has come to.
func (w way) level() int { return w.from + len(w.numbers) }

// through is a way that goes on through a child. It may lie where that through another child did: that one is done with by then.
func (w way) through(c int) way {
	return way{from: w.from, numbers: append(w.numbers, c)}
}

// leadsTo tells whether a way's numbers are the chunks of a hash.
func (w way) leadsTo(h uint64) bool {
	for i, c := range w.numbers {
		if chunk.At(h, w.from+i) != c {
			return false
		}
	}
	return true
}
