package layout

import (
	"brushwood/api"
	"brushwood/bits"
	"brushwood/chunk"
	"brushwood/node"
	"brushwood/pair"
	"brushwood/tree"
)

// chunks is how many chunks there may be at a level.
const chunks = 32

// lasting is the entries whose keys stand in none behind them, as they stand, in a list of its own; their bytes are those of l.
func lasting(l []Entry) []Entry {
	last := map[string]int{}
	for i, e := range l {
		last[string(e.Pair.Key)] = i
	}
	stay := make([]Entry, 0, len(last))
	for i, e := range l {
		if last[string(e.Pair.Key)] == i {
			stay = append(stay, e)
		}
	}
	return stay
}

// pairsOf is the pairs of entries.
func pairsOf(l []Entry) []api.Pair {
	pairs := make([]api.Pair, len(l))
	for i, e := range l {
		pairs[i] = e.Pair
	}
	return pairs
}

// laid is the layout of entries of unlike keys at a level.
func laid(l []Entry, level int) node.Node {
	if len(l) == 0 {
		return nil
	}
	h := l[0].Hash
	switch {
	case len(l) == 1:
		return node.Leaf(h, l[0].Pair)
	case allHave(l, h):
		return node.Bucket(h, tree.From(pair.Come(pairsOf(l))))
	}
	return branched(l, level)
}

// allHave tells whether all entries have one hash.
func allHave(l []Entry, h uint64) bool {
	for _, e := range l {
		if e.Hash != h {
			return false
		}
	}
	return true
}

// branched is the layout of entries that haven't all one hash. Two hashes part at the level 12 at the latest, so that no branch comes below that.
func branched(l []Entry, level int) node.Node {
	var parts [chunks][]Entry
	var set bits.Map
	for _, e := range l {
		c := chunk.At(e.Hash, level)
		parts[c] = append(parts[c], e)
		set = set.With(c)
	}
	var kids []node.Node
	for c := range set.All() {
		kids = append(kids, laid(parts[c], level+1))
	}
	return node.Branch(set, kids...)
}
