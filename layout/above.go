package layout

import (
	"iter"

	"brushwood/node"
)

// fromAbove is the spots of a node and of all below it, each one ahead of its children's; of nothing none.
func fromAbove(n node.Node) iter.Seq[Spot] {
	return func(yield func(Spot) bool) {
		goDown(n, 0, yield)
	}
}

// goDown hands on the spots of a node at a level and of all below it, till goesOn is false, and tells whether it never was.
// It goes all the way down itself, so that a spot isn't handed up through a range for each branch above it.
func goDown(n node.Node, level int, goesOn func(s Spot) bool) bool {
	s := spotOf(n, level)
	if s.Kind == 0 {
		return true
	}
	if !goesOn(s) {
		return false
	}
	for c := range s.Map.All() {
		kid, _ := node.Kid(n, c)
		if !goDown(kid, level+1, goesOn) {
			return false
		}
	}
	return true
}

// spotOf is a node at a level as a spot; the zero Spot, which is of no kind, if there is none.
// Layer 16 is asked for the hash and the set first: what has neither wasn't made there, and its methods aren't called, whatever they do.
func spotOf(n node.Node, level int) Spot {
	hash, hashed := node.Hash(n)
	set, branched := node.Map(n)
	if !hashed && !branched {
		return Spot{}
	}
	return Spot{Level: level, Kind: n.Kind(), Hash: hash, Map: set, Count: n.Count()}
}
