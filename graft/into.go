package graft

import (
	"brushwood/api"
	"brushwood/bits"
	"brushwood/chunk"
	"brushwood/meter"
	"brushwood/node"
	"brushwood/tree"
)

// put is what is put: a pair under its hash. It embeds the meter, as it is the one that goes the way and is counted.
type put struct {
	*meter.Meter
	hash uint64
	pair api.Pair
}

// into is a node at a level with what is put, and whether its key is new there.
func (x put) into(n node.Node, level int) (node.Node, bool) {
	switch kindOf(n) {
	case api.Leaf:
		return x.intoLeaf(n, level)
	case api.Bucket:
		return x.intoBucket(n, level)
	case api.Branch:
		return x.intoBranch(n, level)
	}
	return x.alone(), true
}

// kindOf is a node's kind; 0, that of nothing, if layer 16 didn't make it: so the methods of what comes from outside aren't called, whatever they do.
func kindOf(n node.Node) int {
	_, hashed := node.Hash(n)
	_, branched := node.Map(n)
	if !hashed && !branched {
		return 0
	}
	return n.Kind()
}

// alone is a leaf of nothing but what is put.
func (x put) alone() node.Node { return node.Leaf(x.hash, x.pair) }

// intoLeaf is into of a leaf.
func (x put) intoLeaf(n node.Node, level int) (node.Node, bool) {
	x.Visit()
	if hash, _ := node.Hash(n); hash != x.hash {
		return x.beside(n, hash, level), true
	}
	own, _ := node.Pair(n)
	switch c := x.Compare(x.pair.Key, own.Key); {
	case c < 0:
		return x.bucket(x.pair, own), true
	case c > 0:
		return x.bucket(own, x.pair), true
	}
	return x.alone(), false
}

// bucket is a bucket of pairs in their order.
func (x put) bucket(l ...api.Pair) node.Node {
	return node.Bucket(x.hash, tree.From(l))
}

// intoBucket is into of a bucket.
func (x put) intoBucket(n node.Node, level int) (node.Node, bool) {
	if hash, _ := node.Hash(n); hash != x.hash {
		return x.beside(n, hash, level), true
	}
	old, _ := node.Tree(n)
	t := old.Put(x.pair, x.Meter)
	return node.Bucket(x.hash, t), t.Size() > old.Size()
}

// beside is branches, from a level on, down to the one at which a node of another hash and what is put part.
// Layer 6 is asked where they part, instead of going down till they do: so this ends for a node that isn't right at its level, too.
func (x put) beside(n node.Node, hash uint64, level int) node.Node {
	last := chunk.Common(hash, x.hash)
	below := x.parted(n, chunk.At(hash, last), chunk.At(x.hash, last))
	for above := last - 1; above >= level; above-- {
		below = node.Branch(bits.Of(chunk.At(x.hash, above)), below)
	}
	return below
}

// parted is a branch of a node and of what is put, whose chunks are these.
func (x put) parted(n node.Node, other, own int) node.Node {
	set := bits.Of(other, own)
	if own < other {
		return node.Branch(set, x.alone(), n)
	}
	return node.Branch(set, n, x.alone())
}

// intoBranch is into of a branch: all children but the one for the hash's chunk are those that it has.
func (x put) intoBranch(n node.Node, level int) (node.Node, bool) {
	x.Visit()
	set, _ := node.Map(n)
	own := chunk.At(x.hash, level)
	old, _ := node.Kid(n, own)
	more, fresh := x.into(old, level+1)
	set = set.With(own)
	var kids []node.Node
	for c := range set.All() {
		kid, _ := node.Kid(n, c)
		if c == own {
			kid = more
		}
		kids = append(kids, kid)
	}
	return node.Branch(set, kids...), fresh
}
