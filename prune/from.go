package prune

import (
	"brushwood/api"
	"brushwood/bits"
	"brushwood/chunk"
	"brushwood/meter"
	"brushwood/node"
	"brushwood/tree"
)

// cut is what is deleted: a key under its hash. It embeds the meter, as it is the one that goes the way and is counted.
type cut struct {
	*meter.Meter
	hash uint64
	key  []byte
}

// from is a node at a level without what is deleted, and true; the node itself, and false, if it hasn't that.
// Layer 16 is asked of what kind it is, not the node: there may be none, and what wasn't made there is none.
func (x cut) from(n node.Node, level int) (node.Node, bool) {
	if set, ok := node.Map(n); ok {
		return x.fromBranch(n, set, level)
	}
	hash, ok := node.Hash(n)
	if !ok {
		return n, false
	}
	if t, ok := node.Tree(n); ok {
		return x.fromBucket(n, hash, t)
	}
	return x.fromLeaf(n, hash)
}

// fromLeaf is from of a leaf of a hash. It is visited whatever its hash is.
func (x cut) fromLeaf(n node.Node, hash uint64) (node.Node, bool) {
	x.Visit()
	if hash != x.hash {
		return n, false
	}
	own, _ := node.Pair(n)
	if x.Compare(x.key, own.Key) != 0 {
		return n, false
	}
	return nil, true
}

// fromBucket is from of a bucket of a hash and a tree. Layer 16 makes a leaf of it, if one pair is left.
func (x cut) fromBucket(n node.Node, hash uint64, t *tree.Tree) (node.Node, bool) {
	if hash != x.hash {
		return n, false
	}
	rest, had := t.Delete(x.key, x.Meter)
	if !had {
		return n, false
	}
	return node.Bucket(hash, rest), true
}

// fromBranch is from of a branch of a set: all children but the one for the hash's chunk are those that it has.
func (x cut) fromBranch(n node.Node, set bits.Map, level int) (node.Node, bool) {
	x.Visit()
	own := chunk.At(x.hash, level)
	old, _ := node.Kid(n, own)
	rest, had := x.from(old, level+1)
	if !had {
		return n, false
	}
	if rest == nil {
		set = set.Without(own)
	}
	var kids []node.Node
	for c := range set.All() {
		kid, _ := node.Kid(n, c)
		if c == own {
			kid = rest
		}
		kids = append(kids, kid)
	}
	return above(set, kids), true
}

// above is what stands above such children: a branch, but an only child that is none itself stands for it, as with no other hash beside it there is nothing to part.
func above(set bits.Map, kids []node.Node) node.Node {
	if len(kids) == 1 && kids[0].Kind() != api.Branch {
		return kids[0]
	}
	return node.Branch(set, kids...)
}
