package find

import (
	"bytes"
	"math"
	"math/rand"
	"slices"
	"strconv"
	"testing"

	"brushwood/api"
	"brushwood/bits"
	"brushwood/layout"
	"brushwood/meter"
	"brushwood/node"
	"brushwood/tree"
)

func pairOf(key, value string) api.Pair {
	return api.Pair{Key: []byte(key), Value: []byte(value)}
}

func leaf(h uint64, key, value string) node.Node { return node.Leaf(h, pairOf(key, value)) }

// treeOf is a tree of keys in their order, each with the value "v" and itself.
func treeOf(rising ...string) *tree.Tree {
	var l []api.Pair
	for _, k := range rising {
		l = append(l, pairOf(k, "v"+k))
	}
	return tree.From(l)
}

// named is an entry of a hash and a key, with a value that tells of both.
func named(h uint64, key string) layout.Entry {
	return layout.Entry{Hash: h, Pair: pairOf(key, key+" under "+strconv.FormatUint(h, 16))}
}

// chunkAt is layer 6's sentence: the number of five bits, at the level 12 of four.
func chunkAt(h uint64, level int) int {
	c := 0
	for i := 4; i >= 0; i-- {
		c *= 2
		if 5*level+i < 64 && h&(1<<(5*level+i)) != 0 {
			c++
		}
	}
	return c
}

// told is all that Get and Depth tell and count.
type told struct {
	value string
	ok    bool
	m     meter.Meter
	depth int
}

// inTree is what layer 11's Get tells and visits: from the root on the nodes at which it comes by, as it seeks a key.
func inTree(t *tree.Tree, key string) told {
	var w told
	for t != nil {
		w.m.Visits++
		w.m.Compares++
		p := t.Root()
		switch {
		case key == string(p.Key):
			w.value, w.ok = string(p.Value), true
			return w
		case key < string(p.Key):
			t = t.Left()
		default:
			t = t.Right()
		}
	}
	return w
}

// below is inTree below so many branches.
func below(branches int, w told) told {
	w.m.Visits += branches
	w.depth += branches
	return w
}

// atLeaf is what the chapter says of a leaf below so many branches: of another hash no key is compared.
func atLeaf(branches int, hasHash bool, value string, ok bool) told {
	w := told{value: value, ok: ok, m: meter.Meter{Visits: 1}}
	if hasHash {
		w.m.Compares = 1
	}
	return below(branches, w)
}

// sought is the chapter's sentences of entries of unlike keys: a node of their layout is a branch, as long as they have more than one hash; the way goes on with those that have the chunk of h.
// A bucket's tree may have any shape: so what stands in the node is handed in, by its hash.
func sought(l []layout.Entry, h uint64, key string, trees map[uint64]*tree.Tree) told {
	branches := 0
	for slices.ContainsFunc(l, func(e layout.Entry) bool { return e.Hash != l[0].Hash }) {
		var those []layout.Entry
		for _, e := range l {
			if chunkAt(e.Hash, branches) == chunkAt(h, branches) {
				those = append(those, e)
			}
		}
		l = those
		branches++
	}
	switch {
	case len(l) == 0 || len(l) > 1 && l[0].Hash != h:
		return below(branches, told{})
	case len(l) > 1:
		return below(branches, inTree(trees[h], key))
	case l[0].Hash != h || string(l[0].Pair.Key) != key:
		return atLeaf(branches, l[0].Hash == h, "", false)
	}
	return atLeaf(branches, true, string(l[0].Pair.Value), true)
}

// treesOf is the trees of all buckets of a node, by their hashes, laid into a map.
func treesOf(n node.Node, trees map[uint64]*tree.Tree) map[uint64]*tree.Tree {
	if x, ok := node.Tree(n); ok {
		h, _ := node.Hash(n)
		trees[h] = x
	}
	for c := range 32 {
		if kid, ok := node.Kid(n, c); ok {
			treesOf(kid, trees)
		}
	}
	return trees
}

// tells fails, if Get and Depth don't tell and count just what is said, with a meter that is new, with one that has counted, with one that is full, and with none.
func tells(t *testing.T, what string, n node.Node, h uint64, key string, want told) {
	t.Helper()
	for _, first := range []meter.Meter{{}, {Visits: 100, Compares: 30}, {Visits: -5, Compares: 7}, {Visits: math.MaxInt, Compares: math.MaxInt}} {
		m := first
		v, ok := Get(n, h, []byte(key), &m)
		got := told{value: string(v), ok: ok, m: m, depth: Depth(n, h)}
		w := want
		w.m = meter.Meter{Visits: plus(first.Visits, want.m.Visits), Compares: plus(first.Compares, want.m.Compares)}
		if got != w {
			t.Fatalf("%s: hash %x, key %.20q, a meter of %v: %v, not %v", what, h, key, first, got, w)
		}
		if !ok && v != nil {
			t.Fatalf("%s: hash %x, key %.20q: false, but the value isn't nothing", what, h, key)
		}
	}
	if v, ok := Get(n, h, []byte(key), nil); string(v) != want.value || ok != want.ok || !ok && v != nil {
		t.Fatalf("%s: hash %x, key %.20q, no meter: %.20q, %v, not %v", what, h, key, v, ok, want)
	}
}

// plus is a sum that doesn't go round.
func plus(a, b int) int {
	if a > math.MaxInt-b {
		return math.MaxInt
	}
	return a + b
}

// edgeHashes are the least and the greatest one, and those with one bit alone, or lacking.
func edgeHashes() []uint64 {
	l := []uint64{0, math.MaxUint64, 0x0123456789abcdef, 0xfedcba9876543210}
	for i := range 64 {
		l = append(l, 1<<i, ^uint64(1<<i))
	}
	return l
}

// oddKeys are empty, short, long and strange, by rising keys.
func oddKeys() []string {
	long := string(bytes.Repeat([]byte{0xff}, api.MaxKey))
	return []string{"", "\x00", "\x00\x00", "k", "k\x00", "k\xff", "l", "\x80", "\xff\xfe", long[1:], long}
}

// P18.1: the chapter's example: of a leaf with another hash: nothing, one visit, no compare.
func TestExample(t *testing.T) {
	tells(t, "a leaf with another hash", leaf(5, "k", "v"), 6, "k", told{m: meter.Meter{Visits: 1}})
}

// P18.1: nil has nothing, and no branch is on any way.
func TestNothing(t *testing.T) {
	for _, h := range edgeHashes() {
		for _, k := range oddKeys() {
			tells(t, "nothing", nil, h, k, told{})
		}
	}
	if v, ok := Get(nil, 0, nil, nil); v != nil || ok || Depth(nil, 0) != 0 {
		t.Error("nothing has something")
	}
}

// P18.1: a leaf with the hash has its key alone, after one compare; a leaf with another hash is visited, but its key isn't compared.
func TestLeaf(t *testing.T) {
	for _, h := range edgeHashes() {
		n := leaf(h, "k", "v")
		tells(t, "the hash and the key", n, h, "k", atLeaf(0, true, "v", true))
		for _, k := range []string{"", "j", "l", "kk", "K", "k\x00", "\xff"} {
			tells(t, "the hash, another key", n, h, k, atLeaf(0, true, "", false))
		}
		for i := range 64 {
			tells(t, "another hash, the key", n, h^1<<i, "k", atLeaf(0, false, "", false))
			tells(t, "another hash, another key", n, h^1<<i, "l", atLeaf(0, false, "", false))
		}
	}
}

// P18.1: of a bucket with the hash it is what layer 11's Get of its tree tells and visits; of one with another hash there is nothing, and no visit.
func TestBucket(t *testing.T) {
	for _, h := range []uint64{0, 5, 1 << 63, math.MaxUint64} {
		for _, rising := range [][]string{{"b", "d"}, {"b", "d", "f"}, {"", "b", "d", "f", "h", "j", "l"}} {
			x := treeOf(rising...)
			n := node.Bucket(h, x)
			for _, k := range []string{"", "a", "b", "c", "d", "e", "f", "g", "h", "i", "j", "k", "l", "m", "bb", "\xff"} {
				w := inTree(x, k)
				if w.ok != slices.Contains(rising, k) || w.ok && w.value != "v"+k || w.m.Visits == 0 {
					t.Fatal("the model is wrong", k, w)
				}
				tells(t, "a bucket with the hash", n, h, k, w)
				for _, other := range []uint64{h ^ 1, h ^ 32, h ^ 1<<63, ^h} {
					tells(t, "a bucket with another hash", n, other, k, told{})
				}
			}
		}
	}
}

// P18.1: of the first branch: below it the way ends at a leaf or at a bucket, or there is no such child.
func TestFirstLevel(t *testing.T) {
	x := treeOf("a", "b", "c")
	n := node.Branch(bits.Of(0, 7, 31), node.Bucket(32*5, x), leaf(7, "k", "v"), leaf(math.MaxUint64, "", ""))
	tells(t, "a leaf's hash and key", n, 7, "k", atLeaf(1, true, "v", true))
	tells(t, "a leaf's hash", n, 7, "a", atLeaf(1, true, "", false))
	tells(t, "a leaf's chunk", n, 7+32, "k", atLeaf(1, false, "", false))
	tells(t, "the greatest chunk", n, math.MaxUint64, "", atLeaf(1, true, "", true))
	tells(t, "the greatest chunk, another hash", n, 31, "", atLeaf(1, false, "", false))
	for _, k := range []string{"a", "b", "c", "d", ""} {
		tells(t, "a bucket's hash", n, 32*5, k, below(1, inTree(x, k)))
		tells(t, "a bucket's chunk", n, 0, k, told{m: meter.Meter{Visits: 1}, depth: 1})
	}
	for c := range uint64(31) {
		if c != 0 && c != 7 {
			tells(t, "no such child", n, c, "k", told{m: meter.Meter{Visits: 1}, depth: 1})
			tells(t, "no such child", n, 7*32+c, "k", told{m: meter.Meter{Visits: 1}, depth: 1})
		}
	}
}

// chain is branches of one child each, from the level 0 on, down to the last one, which has the two nodes, whose hashes part at that level alone.
func chain(last int, a, b node.Node) node.Node {
	h, _ := node.Hash(a)
	g, _ := node.Hash(b)
	if chunkAt(h, last) > chunkAt(g, last) {
		a, b = b, a
	}
	n := node.Branch(bits.Of(chunkAt(h, last), chunkAt(g, last)), a, b)
	for level := last - 1; level >= 0; level-- {
		n = node.Branch(bits.Of(chunkAt(h, level)), n)
	}
	return n
}

// P18.1: branches at each level, the last one among them: the way ends at a leaf, at a bucket, or at a branch without such a child, below as many branches as there are till then.
func TestEachLevel(t *testing.T) {
	for last := range api.Levels {
		for _, h := range edgeHashes() {
			x := treeOf("", "a", "b", "c", "d")
			g := h ^ 1<<(5*last)
			n := chain(last, leaf(h, "k", "v"), node.Bucket(g, x))
			if !node.Right(n, 0) {
				t.Fatal("the chain isn't right", last, h)
			}
			tells(t, "down to a leaf", n, h, "k", atLeaf(last+1, true, "v", true))
			tells(t, "down to a leaf, another key", n, h, "a", atLeaf(last+1, true, "", false))
			for _, k := range []string{"", "a", "b", "c", "d", "e", "k"} {
				tells(t, "down to a bucket", n, g, k, below(last+1, inTree(x, k)))
			}
			offTheWay(t, n, h, last)
		}
	}
}

// offTheWay is part of TestEachLevel: hashes that are other than h in one bit.
func offTheWay(t *testing.T, n node.Node, h uint64, last int) {
	t.Helper()
	for i := range 64 {
		other := h ^ 1<<i
		level := i / 5
		switch {
		case level > last:
			tells(t, "below the leaf's chunk", n, other, "k", atLeaf(last+1, false, "", false))
			tells(t, "below the bucket's chunk", n, other^1<<(5*last), "a", told{m: meter.Meter{Visits: last + 1}, depth: last + 1})
		case i != 5*last:
			tells(t, "no such child", n, other, "k", told{m: meter.Meter{Visits: level + 1}, depth: level + 1})
		}
	}
}

// P18.1: at the last level chunks have four bits: each of the 16 leads to its own leaf, below 13 branches.
func TestLastLevel(t *testing.T) {
	const low = 0x0123456789abcdef
	var l []layout.Entry
	for top := range uint64(16) {
		l = append(l, named(low|top<<60, "k"+strconv.Itoa(int(top))))
	}
	n := layout.Of(l)
	for i, e := range l {
		for j, f := range l {
			value, ok := "", i == j
			if ok {
				value = string(e.Pair.Value)
			}
			tells(t, "the last level", n, e.Hash, string(f.Pair.Key), atLeaf(api.Levels, true, value, ok))
		}
	}
}

// P18.1: empty keys and empty values are as all others, in leaves and in buckets.
func TestEmpty(t *testing.T) {
	empty := node.Leaf(5, api.Pair{})
	tells(t, "a leaf", empty, 5, "", atLeaf(0, true, "", true))
	tells(t, "a leaf, another key", empty, 5, "\x00", atLeaf(0, true, "", false))
	tells(t, "a leaf, another hash", empty, 4, "", atLeaf(0, false, "", false))
	tells(t, "a full leaf", leaf(5, "k", "v"), 5, "", atLeaf(0, true, "", false))
	if v, ok := Get(empty, 5, nil, nil); len(v) != 0 || !ok {
		t.Error("no key isn't the empty one")
	}
	x := tree.From([]api.Pair{pairOf("", ""), pairOf("a", ""), pairOf("b", "1")})
	n := node.Branch(bits.Of(1, 5), node.Bucket(1, x), empty)
	for _, k := range []string{"", "a", "b", "c"} {
		tells(t, "a bucket", n, 1, k, below(1, inTree(x, k)))
	}
	tells(t, "below a branch", n, 5, "", atLeaf(1, true, "", true))
}

// P18.1: keys and values of all kinds and lengths, at leaves and in buckets, below branches or not.
func TestOddKeys(t *testing.T) {
	for _, hashes := range [][]uint64{{9}, {9, 9 + 32}, {0, math.MaxUint64, 1 << 63}, edgeHashes()} {
		var l []layout.Entry
		for i, k := range oddKeys() {
			l = append(l, layout.Entry{Hash: hashes[i%len(hashes)], Pair: pairOf(k, k)})
		}
		n := layout.Of(l)
		trees := treesOf(n, map[uint64]*tree.Tree{})
		for _, h := range append(hashes, 8, 9+64) {
			for _, k := range append(oddKeys(), "m", "\xff") {
				tells(t, "odd keys", n, h, k, sought(l, h, k, trees))
			}
		}
	}
}

// P18.1: the key alone isn't enough: one key under two hashes has two values, each below its own way.
func TestOneKeyUnderTwoHashes(t *testing.T) {
	n := chain(3, leaf(0, "k", "1"), leaf(1<<15, "k", "2"))
	tells(t, "the one hash", n, 0, "k", atLeaf(4, true, "1", true))
	tells(t, "the other hash", n, 1<<15, "k", atLeaf(4, true, "2", true))
	tells(t, "neither hash", n, 1<<20, "k", atLeaf(4, false, "", false))
}

// P18.1: a branch that has a child for each chunk.
func TestAllChildren(t *testing.T) {
	var kids []node.Node
	var all []int
	for c := range 32 {
		kids = append(kids, leaf(uint64(c)|1<<40, strconv.Itoa(c), "v"+strconv.Itoa(c)))
		all = append(all, c)
	}
	n := node.Branch(bits.Of(all...), kids...)
	for c := range 32 {
		tells(t, "each child", n, uint64(c)|1<<40, strconv.Itoa(c), atLeaf(1, true, "v"+strconv.Itoa(c), true))
		tells(t, "each child, another hash", n, uint64(c), strconv.Itoa(c), atLeaf(1, false, "", false))
	}
}

// family is hashes of one kind, for as many keys as there are.
type family struct {
	what string
	hash func(i int) uint64
}

// families are hashes of every kind.
func families() []family {
	r := rand.New(rand.NewSource(18))
	return []family{
		{"one hash", func(int) uint64 { return 0x0123456789abcdef }},
		{"the least hash", func(int) uint64 { return 0 }},
		{"the greatest hash", func(int) uint64 { return math.MaxUint64 }},
		{"the last level alone", func(i int) uint64 { return uint64(i) << 60 }},
		{"the highest bit alone", func(i int) uint64 { return 0xfff | uint64(i)<<63 }},
		{"the first level alone", func(i int) uint64 { return uint64(i % 32) }},
		{"the first and the last level", func(i int) uint64 { return uint64(i%3) | uint64(i)<<62 }},
		{"one bit", func(i int) uint64 { return 1 << (i % 64) }},
		{"all but one bit", func(i int) uint64 { return ^uint64(1 << (i % 64)) }},
		{"rising", func(i int) uint64 { return uint64(i) }},
		{"rising from above", func(i int) uint64 { return uint64(i) << 50 }},
		{"chance", func(int) uint64 { return r.Uint64() }},
		{"few", func(int) uint64 { return uint64(r.Intn(8)) << 61 }},
		{"all but one under one hash", func(i int) uint64 { return uint64(min(i, 1)) << 63 }},
		{"two hashes till the last level", func(i int) uint64 { return uint64(i%2)<<63 | 77 }},
	}
}

// unlike is so many entries of unlike keys.
func unlike(n int, hash func(i int) uint64) []layout.Entry {
	var l []layout.Entry
	for i := range n {
		l = append(l, named(hash(i), "key "+strconv.Itoa(i)))
	}
	return l
}

// bound is layer 9's sentence: 17, and the greatest whole number that isn't above six times the logarithm of n + 1 to the base 2: so as often as n + 1 to the power 6, which has to be below 2^64 here, can be halved, till it is 1.
func bound(n int) int {
	power := uint64(1)
	for range 6 {
		power *= uint64(n) + 1
	}
	b := 17
	for power > 1 {
		power /= 2
		b++
	}
	return b
}

// P18.2: whatever the hashes are, the visits are within the bound for as many pairs as there are, and no more keys are compared than nodes visited: of keys that are there, and of such that aren't, under their own hashes and others'. P18.1: all is told and counted as the chapter says.
func TestWithinBound(t *testing.T) {
	for _, f := range families() {
		for _, size := range []int{1, 2, 3, 4, 7, 8, 15, 16, 17, 31, 63, 64, 100, 257} {
			l := unlike(size, f.hash)
			n := layout.Of(l)
			trees := treesOf(n, map[uint64]*tree.Tree{})
			for i := 0; i < size; i += 1 + size/16 {
				e := l[i]
				for _, k := range []string{string(e.Pair.Key), string(e.Pair.Key) + "0", "key ", "l"} {
					for _, h := range []uint64{e.Hash, e.Hash ^ 1, e.Hash ^ 1<<63, l[(i+1)%size].Hash} {
						w := sought(l, h, k, trees)
						tells(t, f.what, n, h, k, w)
						if w.m.Visits > bound(size) || w.m.Visits > meter.Bound(size) || w.m.Compares > w.m.Visits || !w.m.Within(size) {
							t.Fatalf("%s: %d pairs: %v is above %d", f.what, size, w.m, bound(size))
						}
					}
				}
			}
		}
	}
}

// P18.2: a thousand keys and more under one hash, below as many branches as there may be: the way is never longer than the bound.
func TestGreatBucketBelowAllBranches(t *testing.T) {
	for _, size := range []int{1000, 1023, 1024, 20000} {
		l := unlike(size, func(i int) uint64 { return uint64(min(i, 1)) << 63 })
		n := layout.Of(l)
		most := 0
		for _, e := range l {
			for _, k := range [][]byte{e.Pair.Key, append(slices.Clone(e.Pair.Key), 'x')} {
				var m meter.Meter
				v, ok := Get(n, e.Hash, k, &m)
				if there := len(k) == len(e.Pair.Key); ok != there || ok && !bytes.Equal(v, e.Pair.Value) {
					t.Fatalf("%d keys: %q: %q, %v", size, k, v, ok)
				}
				if !m.Within(size) {
					t.Fatalf("%d keys: %q: %v isn't within %d", size, k, m, meter.Bound(size))
				}
				most = max(most, m.Visits)
			}
		}
		if most < api.Levels+10 || Depth(n, 1<<63) != api.Levels {
			t.Fatalf("%d keys: %d visits at most, %d branches: no such way is as long as it has to be", size, most, Depth(n, 1<<63))
		}
	}
}

// chanceHashes are hashes that fall together often, part at all levels, or are any.
func chanceHashes(r *rand.Rand) []uint64 {
	few := []uint64{r.Uint64(), r.Uint64(), 0, math.MaxUint64}
	var l []uint64
	for range 1 + r.Intn(30) {
		h := few[r.Intn(len(few))]
		switch r.Intn(5) {
		case 0:
			h = r.Uint64()
		case 1:
			h ^= 1 << r.Intn(64)
		case 2:
			h ^= uint64(r.Intn(16)) << 60
		case 3:
			h ^= uint64(r.Intn(64))
		}
		l = append(l, h)
	}
	return l
}

// P18.1, P18.2: entries of every sort at random, each key sought under its own hash, under others', and under such as are near.
func TestAtRandom(t *testing.T) {
	r := rand.New(rand.NewSource(1818))
	for range 600 {
		hashes := chanceHashes(r)
		l := unlike(1+r.Intn(60), func(int) uint64 { return hashes[r.Intn(len(hashes))] })
		n := layout.Of(l)
		trees := treesOf(n, map[uint64]*tree.Tree{})
		for _, e := range l {
			k := string(e.Pair.Key)
			for _, h := range []uint64{e.Hash, hashes[r.Intn(len(hashes))], e.Hash ^ 1<<r.Intn(64), r.Uint64()} {
				w := sought(l, h, k, trees)
				if w.ok != (h == e.Hash) || w.m.Visits > bound(len(l)) {
					t.Fatal("the model is wrong, or the bound", l, h, k, w)
				}
				tells(t, "at random", n, h, k, w)
				tells(t, "at random, another key", n, h, k+"0", sought(l, h, k+"0", trees))
			}
		}
	}
}

// roomy is bytes with others behind their length.
func roomy(s string) []byte {
	return append([]byte(s), "behind the length"...)[:len(s)]
}

// spoil writes over bytes, and over all that lies behind their length.
func spoil(b []byte) {
	b = b[:cap(b)]
	for i := range b {
		b[i] ^= 0x55
	}
}

// Rule 2: a value that is answered is new memory, and the key isn't kept: what is written over them changes no answer; rule 7: what lies behind the key's length isn't read, and none of it is written.
func TestMemory(t *testing.T) {
	n := layout.Of([]layout.Entry{named(1, "a"), named(5, "b"), named(5, "c"), named(5, "d"), named(1<<63, "")})
	before := layout.Shape(n)
	for _, e := range []layout.Entry{named(1, "a"), named(5, "b"), named(5, "c"), named(5, "d"), named(1<<63, "")} {
		key := roomy(string(e.Pair.Key))
		whole := slices.Clone(key[:cap(key)])
		first, ok := Get(n, e.Hash, key, nil)
		if !ok || !bytes.Equal(first, e.Pair.Value) || !bytes.Equal(key[:cap(key)], whole) {
			t.Fatalf("%q: %q, %v, or the key was written into", e.Pair.Key, first, ok)
		}
		second, _ := Get(n, e.Hash, key, nil)
		spoil(key)
		spoil(first)
		if !bytes.Equal(second, e.Pair.Value) {
			t.Fatalf("%q: two answers share their memory", e.Pair.Key)
		}
		if third, ok := Get(n, e.Hash, e.Pair.Key, nil); !ok || !bytes.Equal(third, e.Pair.Value) {
			t.Fatalf("%q: an answer shares the node's memory: %q, %v", e.Pair.Key, third, ok)
		}
	}
	if !slices.Equal(layout.Shape(n), before) || !layout.Same(n, layout.Of([]layout.Entry{named(1<<63, ""), named(5, "d"), named(5, "c"), named(5, "b"), named(1, "a")})) {
		t.Error("the node was changed")
	}
}

// Rule 2: what a node was made of may be written over behind, too.
func TestMemoryOfWhatWasHandedIn(t *testing.T) {
	p, q, r := api.Pair{Key: roomy("a"), Value: roomy("1")}, api.Pair{Key: roomy("b"), Value: roomy("2")}, api.Pair{Key: roomy("c"), Value: roomy("3")}
	x := tree.From([]api.Pair{q, r})
	kids := []node.Node{node.Leaf(3, p), node.Bucket(4, x)}
	n := node.Branch(bits.Of(3, 4), kids...)
	for _, b := range [][]byte{p.Key, p.Value, q.Key, q.Value, r.Key, r.Value} {
		spoil(b)
	}
	kids[0], kids[1] = nil, kids[0]
	tells(t, "the leaf", n, 3, "a", atLeaf(1, true, "1", true))
	tells(t, "the bucket", n, 4, "b", below(1, inTree(x, "b")))
	tells(t, "the bucket", n, 4, "c", below(1, inTree(x, "c")))
}

// P18.1: the meter alone is written into, and nothing of one call is left for the next: calls in any order tell the same.
func TestCallsDontTouchEachOther(t *testing.T) {
	l := unlike(40, func(i int) uint64 { return uint64(i%5) << 59 })
	n := layout.Of(l)
	trees := treesOf(n, map[uint64]*tree.Tree{})
	var m, all meter.Meter
	for range 2 {
		for _, e := range l {
			w := sought(l, e.Hash, string(e.Pair.Key), trees)
			all.Visits += w.m.Visits
			all.Compares += w.m.Compares
			if v, ok := Get(n, e.Hash, e.Pair.Key, &m); !ok || !bytes.Equal(v, e.Pair.Value) || m != all {
				t.Fatalf("%q: %q, %v, %v, not %v", e.Pair.Key, v, ok, m, all)
			}
			if Depth(n, e.Hash) != w.depth || m != all {
				t.Fatalf("%q: %d branches, not %d, or the meter counted them", e.Pair.Key, Depth(n, e.Hash), w.depth)
			}
		}
	}
}

// stranger has a node's methods, but isn't one; it can't be compared either.
type stranger struct{ l []int }

func (s stranger) Kind() int { panic("a stranger was asked") }

func (s stranger) Count() int { panic("a stranger was asked") }

// Rule 6, and layer 16: what is no node has no pairs: it counts as nothing.
func TestStrangers(t *testing.T) {
	tells(t, "a stranger", stranger{l: []int{1}}, 0, "", told{})
	var none *stranger
	tells(t, "a pointer to no stranger", none, 0, "", told{})
}

// P1: no call panics, and each ends, of nodes that aren't right, too: of those the chapter promises nothing else.
func TestWrongNodes(t *testing.T) {
	deep := leaf(0, "k", "v")
	for range 1 << 16 {
		deep = node.Branch(bits.Of(0), deep)
	}
	unsorted := tree.From([]api.Pair{pairOf("b", "1"), pairOf("a", "2"), pairOf("b", "3")})
	for _, n := range []node.Node{
		deep,
		node.Branch(bits.Of(3), leaf(9, "k", "v")),
		node.Branch(bits.Of(3, 4), leaf(4, "k", "v"), leaf(3, "k", "v")),
		node.Bucket(5, unsorted),
	} {
		for _, h := range edgeHashes()[:8] {
			Get(n, h, []byte("k"), nil)
			Get(n, h, []byte("b"), &meter.Meter{})
			Depth(n, h)
		}
	}
}
