package node

import (
	"math"

	"brushwood/api"
	"brushwood/bits"
	"brushwood/pair"
	"brushwood/tree"
)

// hashed is what leaves and buckets have alike: all their pairs have one hash.
type hashed struct{ hash uint64 }

// leaf is the node of one pair. Its bytes are never handed out nor written into, so that it never changes.
type leaf struct {
	hashed
	pair api.Pair
}

// bucket is the node of several pairs with one hash.
type bucket struct {
	hashed
	tree *tree.Tree
}

// branch is the node above others, its children: one for each number of its set, in their order.
type branch struct {
	set  bits.Map
	kids []Node
	// pairs is how many are in all its children, kept so that no count needs to go down.
	pairs int
}

// Kind is api.Leaf.
func (*leaf) Kind() int { return api.Leaf }

// Kind is api.Bucket.
func (*bucket) Kind() int { return api.Bucket }

// Kind is api.Branch.
func (*branch) Kind() int { return api.Branch }

// Count is 1.
func (*leaf) Count() int { return 1 }

// Count is how many pairs its tree has.
func (x *bucket) Count() int { return x.tree.Size() }

// Count is how many pairs its children have.
func (x *branch) Count() int { return x.pairs }

// made tells whether this package made it: then it is a node, of one of the three kinds, and its methods may be called.
func made(n Node) bool {
	switch n.(type) {
	case *leaf, *bucket, *branch:
		return true
	}
	return false
}

// sum is that of two counts, or the greatest number, if it is more: as one node may be a child again and again, there may be more pairs in a branch than an int can tell, and it mustn't go round.
func sum(a, b int) int {
	if a > math.MaxInt-b {
		return math.MaxInt
	}
	return a + b
}

// owned is the same pair as new memory.
func owned(p api.Pair) api.Pair { return pair.Own([]api.Pair{p})[0] }
