package graft

import (
	"bytes"
	"math"
	"math/rand"
	"slices"
	"strconv"
	"testing"

	"brushwood/api"
	"brushwood/bits"
	"brushwood/layout"
	"brushwood/meter"
	"brushwood/node"
	"brushwood/tree"
)

func pairOf(key, value string) api.Pair {
	return api.Pair{Key: []byte(key), Value: []byte(value)}
}

func entry(h uint64, key, value string) layout.Entry {
	return layout.Entry{Hash: h, Pair: pairOf(key, value)}
}

// named is an entry of a hash and a key, with a value that tells of both.
func named(h uint64, key string) layout.Entry {
	return entry(h, key, key+" under "+strconv.FormatUint(h, 16))
}

// behind is a list of entries with one more behind it, in memory of its own.
func behind(l []layout.Entry, e ...layout.Entry) []layout.Entry {
	return append(slices.Clone(l), e...)
}

// lasting is layer 17's sentence: the entries whose keys stand in none behind them.
func lasting(l []layout.Entry) []layout.Entry {
	var those []layout.Entry
	for i, e := range l {
		if !hasKey(l[i+1:], string(e.Pair.Key)) {
			those = append(those, e)
		}
	}
	return those
}

// hasKey tells whether an entry has that key.
func hasKey(l []layout.Entry, key string) bool {
	return slices.ContainsFunc(l, func(e layout.Entry) bool { return string(e.Pair.Key) == key })
}

// chunkAt is layer 6's sentence: the number of five bits, at the level 12 of four.
func chunkAt(h uint64, level int) int {
	c := 0
	for i := 4; i >= 0; i-- {
		c *= 2
		if 5*level+i < 64 && h&(1<<(5*level+i)) != 0 {
			c++
		}
	}
	return c
}

// isLaid fails, if a node isn't the layout of entries of unlike keys at a level, part by part, as layer 17 says it.
func isLaid(t *testing.T, what string, n node.Node, l []layout.Entry, level int) {
	t.Helper()
	if len(l) == 0 {
		if n != nil {
			t.Fatalf("%s: not nothing", what)
		}
		return
	}
	if n == nil || n.Count() != len(l) {
		t.Fatalf("%s: %v isn't a node of %d pairs", what, n, len(l))
	}
	other := slices.ContainsFunc(l, func(e layout.Entry) bool { return e.Hash != l[0].Hash })
	switch {
	case len(l) == 1:
		isLeafOf(t, what, n, l[0])
	case !other:
		isBucketOf(t, what, n, l)
	default:
		isBranchOf(t, what, n, l, level)
	}
}

func isLeafOf(t *testing.T, what string, n node.Node, e layout.Entry) {
	t.Helper()
	h, _ := node.Hash(n)
	p, ok := node.Pair(n)
	if n.Kind() != 1 || !ok || h != e.Hash || !samePair(p, e.Pair) {
		t.Fatalf("%s: not a leaf of %x and %.40q, but %x and %.40q", what, e.Hash, e.Pair, h, p)
	}
}

func samePair(p, q api.Pair) bool {
	return string(p.Key) == string(q.Key) && string(p.Value) == string(q.Value)
}

func isBucketOf(t *testing.T, what string, n node.Node, l []layout.Entry) {
	t.Helper()
	h, _ := node.Hash(n)
	x, ok := node.Tree(n)
	if n.Kind() != 2 || !ok || h != l[0].Hash || !x.Sound() {
		t.Fatalf("%s: not a bucket of %x with a sound tree, but of %x", what, l[0].Hash, h)
	}
	values := map[string]string{}
	for _, p := range x.List() {
		values[string(p.Key)] = string(p.Value)
	}
	for _, e := range l {
		if v, ok := values[string(e.Pair.Key)]; !ok || v != string(e.Pair.Value) || x.Size() != len(l) {
			t.Fatalf("%s: a bucket of %d pairs, which has %.40q for %.40q, not %.40q", what, x.Size(), v, e.Pair.Key, e.Pair.Value)
		}
	}
}

func isBranchOf(t *testing.T, what string, n node.Node, l []layout.Entry, level int) {
	t.Helper()
	var parts [32][]layout.Entry
	var numbers []int
	for _, e := range l {
		c := chunkAt(e.Hash, level)
		parts[c] = append(parts[c], e)
		if len(parts[c]) == 1 {
			numbers = append(numbers, c)
		}
	}
	if set, ok := node.Map(n); n.Kind() != 3 || !ok || set != bits.Of(numbers...) {
		t.Fatalf("%s: at the level %d not a branch of %v, but of the kind %d, of %b", what, level, numbers, n.Kind(), set)
	}
	for _, c := range numbers {
		kid, _ := node.Kid(n, c)
		isLaid(t, what, kid, parts[c], level+1)
	}
}

// isLayout fails, if a node isn't the layout of entries, node for node.
func isLayout(t *testing.T, what string, n node.Node, l []layout.Entry) {
	t.Helper()
	isLaid(t, what, n, lasting(l), 0)
	if o := layout.Of(l); !layout.Same(n, o) || !slices.Equal(layout.Shape(n), layout.Shape(o)) || n != nil && !node.Right(n, 0) {
		t.Fatalf("%s: not the same as the layout, or not right", what)
	}
}

// inTree is what layer 11's Put visits: from the root on the nodes at which it comes by, as it seeks the key.
func inTree(x *tree.Tree, key string) meter.Meter {
	var m meter.Meter
	for x != nil {
		m.Visits++
		m.Compares++
		own := string(x.Root().Key)
		if own == key {
			return m
		}
		if key < own {
			x = x.Left()
		} else {
			x = x.Right()
		}
	}
	return m
}

// passed is the chapter's sentence on visits, of entries of unlike keys: a node of their layout is a branch as long as they have more than one hash, and the way goes on with those that have the chunk of h.
// A bucket's tree may have any shape: so what stands in the node is handed in, by its hash.
func passed(l []layout.Entry, h uint64, key string, trees map[uint64]*tree.Tree) meter.Meter {
	branches := 0
	for slices.ContainsFunc(l, func(e layout.Entry) bool { return e.Hash != l[0].Hash }) {
		var those []layout.Entry
		for _, e := range l {
			if chunkAt(e.Hash, branches) == chunkAt(h, branches) {
				those = append(those, e)
			}
		}
		l = those
		branches++
	}
	m := meter.Meter{Visits: branches}
	switch {
	case len(l) == 1:
		m.Visits++
		if l[0].Hash == h {
			m.Compares++
		}
	case len(l) > 1 && l[0].Hash == h:
		b := inTree(trees[h], key)
		m.Visits += b.Visits
		m.Compares += b.Compares
	}
	return m
}

// treesOf is the trees of all buckets of a node, by their hashes, laid into a map.
func treesOf(n node.Node, trees map[uint64]*tree.Tree) map[uint64]*tree.Tree {
	if x, ok := node.Tree(n); ok {
		h, _ := node.Hash(n)
		trees[h] = x
	}
	for c := range 32 {
		if kid, ok := node.Kid(n, c); ok {
			treesOf(kid, trees)
		}
	}
	return trees
}

// plus is a sum that doesn't go round.
func plus(a, b int) int {
	if a > math.MaxInt-b {
		return math.MaxInt
	}
	return a + b
}

// grown puts an entry into a node that is the layout of l, and fails, if all that comes of it, and all that is counted, isn't as the chapter says it; it tells what is made.
func grown(t *testing.T, what string, n node.Node, l []layout.Entry, e layout.Entry) node.Node {
	t.Helper()
	if old, is := lasting(l), hasKey(l, string(e.Pair.Key)); is {
		for _, o := range old {
			if string(o.Pair.Key) == string(e.Pair.Key) && o.Hash != e.Hash {
				t.Fatalf("%s: the chapter promises nothing of the key %.40q under another hash", what, e.Pair.Key)
			}
		}
	}
	var m meter.Meter
	x, fresh := Put(n, e.Hash, e.Pair, &m)
	isLayout(t, what, x, behind(l, e))
	if fresh == hasKey(l, string(e.Pair.Key)) {
		t.Fatalf("%s: %x, %.40q: told that no entry had the key: %v", what, e.Hash, e.Pair.Key, fresh)
	}
	if w := passed(lasting(l), e.Hash, string(e.Pair.Key), treesOf(n, map[uint64]*tree.Tree{})); m != w {
		t.Fatalf("%s: %x, %.40q: %v are counted, not %v", what, e.Hash, e.Pair.Key, m, w)
	}
	if !m.Within(len(lasting(l))) {
		t.Fatalf("%s: %x, %.40q: %v isn't within the bound for %d", what, e.Hash, e.Pair.Key, m, len(lasting(l)))
	}
	return x
}

// puts is grown with each kind of meter: one that is new, one that has counted, one that is full, and none; and behind them n still is the layout of l.
func puts(t *testing.T, what string, n node.Node, l []layout.Entry, e layout.Entry) node.Node {
	t.Helper()
	x := grown(t, what, n, l, e)
	w := passed(lasting(l), e.Hash, string(e.Pair.Key), treesOf(n, map[uint64]*tree.Tree{}))
	for _, first := range []meter.Meter{{Visits: 100, Compares: 30}, {Visits: -5, Compares: 7}, {Visits: math.MaxInt, Compares: math.MaxInt}} {
		m := first
		y, fresh := Put(n, e.Hash, e.Pair, &m)
		if !layout.Same(x, y) || fresh == hasKey(l, string(e.Pair.Key)) {
			t.Fatalf("%s: another meter, another answer", what)
		}
		if want := (meter.Meter{Visits: plus(first.Visits, w.Visits), Compares: plus(first.Compares, w.Compares)}); m != want {
			t.Fatalf("%s: a meter of %v: %v, not %v", what, first, m, want)
		}
	}
	if y, fresh := Put(n, e.Hash, e.Pair, nil); !layout.Same(x, y) || fresh == hasKey(l, string(e.Pair.Key)) {
		t.Fatalf("%s: no meter, another answer", what)
	}
	isLayout(t, what+": the old one", n, l)
	return x
}

// putsAll is puts of each of some entries into the layout of l.
func putsAll(t *testing.T, what string, l []layout.Entry, entries ...layout.Entry) {
	t.Helper()
	n := layout.Of(l)
	for _, e := range entries {
		puts(t, what, n, l, e)
	}
}

// edgeHashes are the least and the greatest one, and those with one bit alone, or lacking.
func edgeHashes() []uint64 {
	l := []uint64{0, math.MaxUint64, 0x0123456789abcdef, 0xfedcba9876543210}
	for i := range 64 {
		l = append(l, 1<<i, ^uint64(1<<i))
	}
	return l
}

// oddKeys are empty, short, long and strange.
func oddKeys() []string {
	long := string(bytes.Repeat([]byte{0xff}, api.MaxKey))
	return []string{"", "\x00", "\x00\x00", "k", "k\x00", "k\xff", "l", "\x80", "\xff\xfe", long[1:], long}
}

// P19.1: the chapter's example: into nothing: a leaf, and true.
func TestExample(t *testing.T) {
	n, fresh := Put(nil, 5, pairOf("k", "v"), nil)
	h, _ := node.Hash(n)
	p, ok := node.Pair(n)
	if !fresh || !ok || n.Kind() != api.Leaf || n.Count() != 1 || h != 5 || !samePair(p, pairOf("k", "v")) {
		t.Error(n, fresh, h, p)
	}
}

// P19.1: into nothing, whatever the hash and the pair are: a leaf, true, and no visit.
func TestIntoNothing(t *testing.T) {
	for i, h := range edgeHashes() {
		keys := oddKeys()
		k := keys[i%len(keys)]
		puts(t, "into nothing", nil, nil, entry(h, k, ""))
		puts(t, "into nothing", nil, nil, entry(h, "k", k))
		var m meter.Meter
		if n, fresh := Put(nil, h, pairOf(k, "v"), &m); n.Kind() != api.Leaf || !fresh || m != (meter.Meter{}) {
			t.Error(h, k, n, fresh, m)
		}
	}
}

// P19.1: into a leaf with the hash and the key: its value is another one, or the same.
func TestIntoLeafWithKey(t *testing.T) {
	for _, h := range edgeHashes() {
		l := []layout.Entry{entry(h, "k", "v")}
		putsAll(t, "the hash and the key", l, entry(h, "k", "w"), entry(h, "k", "v"), entry(h, "k", ""), entry(h, "k", "v longer"))
	}
	var m meter.Meter
	n, fresh := Put(node.Leaf(5, pairOf("k", "v")), 5, pairOf("k", "w"), &m)
	if p, _ := node.Pair(n); fresh || !samePair(p, pairOf("k", "w")) || m != (meter.Meter{Visits: 1, Compares: 1}) {
		t.Error(p, fresh, m)
	}
}

// P19.1: into a leaf with the hash, but another key: a bucket of both, with a sound tree, whichever key is less.
func TestIntoLeafWithHash(t *testing.T) {
	for _, h := range edgeHashes()[:20] {
		l := []layout.Entry{entry(h, "k", "v")}
		for _, k := range []string{"", "\x00", "j", "jz", "K", "k\x00", "kk", "l", "\xff"} {
			putsAll(t, "the hash, another key", l, entry(h, k, "w"), entry(h, k, ""))
			var m meter.Meter
			n, fresh := Put(layout.Of(l), h, pairOf(k, "w"), &m)
			if n.Kind() != api.Bucket || n.Count() != 2 || !fresh || m != (meter.Meter{Visits: 1, Compares: 1}) {
				t.Fatal(h, k, n, fresh, m)
			}
		}
	}
}

// P19.1: into a leaf with another hash: branches of an only child down to the one at which both part, whichever chunk is less, at each bit of each level; one visit, and no compare.
func TestIntoLeafWithAnotherHash(t *testing.T) {
	for _, h := range edgeHashes() {
		l := []layout.Entry{entry(h, "k", "v")}
		n := layout.Of(l)
		for i := range 64 {
			puts(t, "another hash", n, l, entry(h^1<<i, "j", "w"))
			var m meter.Meter
			x, fresh := Put(n, h^1<<i, pairOf("l", "w"), &m)
			if len(layout.Shape(x)) != i/5+1+2 || !fresh || m != (meter.Meter{Visits: 1}) {
				t.Fatal(h, i, layout.Shape(x), fresh, m)
			}
		}
		putsAll(t, "hashes that part at the first level, and at others, too", l, entry(^h, "j", "w"), entry(h+1, "l", "w"), entry(h-1, "", ""))
	}
}

// P19.1: two chunks at the one level at which two hashes part: all couples of them.
func TestPartingChunks(t *testing.T) {
	for _, level := range []int{0, 1, 7, 11, 12} {
		for a := range uint64(32) {
			for b := range uint64(32) {
				h, g := a<<(5*level), b<<(5*level)
				if h != g {
					l := []layout.Entry{entry(h, "k", "v")}
					grown(t, "chunks", layout.Of(l), l, entry(g, "j", "w"))
				}
			}
		}
	}
}

// under is entries of one hash, each with the value "v" and its key.
func under(h uint64, keys ...string) []layout.Entry {
	var l []layout.Entry
	for _, k := range keys {
		l = append(l, entry(h, k, "v"+k))
	}
	return l
}

// P19.1: into a bucket with the hash, of a key that it has, and of one that it hasn't, at each place among its keys.
func TestIntoBucketWithHash(t *testing.T) {
	for _, h := range []uint64{0, 5, 1 << 63, math.MaxUint64} {
		for _, keys := range [][]string{{"b", "d"}, {"", "b"}, {"b", "d", "f"}, {"", "b", "d", "f", "h", "j", "l"}} {
			l := under(h, keys...)
			for _, k := range []string{"", "a", "b", "c", "d", "e", "f", "g", "h", "i", "j", "k", "l", "m", "bb", "\xff"} {
				putsAll(t, "a bucket with the hash", l, entry(h, k, "w"), entry(h, k, ""), entry(h, k, "v"+k))
			}
		}
	}
}

// P19.1: into a bucket with another hash: branches down to where both part, and below them the bucket and a leaf; no visit.
func TestIntoBucketWithAnotherHash(t *testing.T) {
	for _, h := range edgeHashes()[:12] {
		l := under(h, "b", "d", "f")
		n := layout.Of(l)
		for i := range 64 {
			for _, k := range []string{"", "c", "z"} {
				puts(t, "a bucket with another hash", n, l, entry(h^1<<i, k, "w"))
			}
			var m meter.Meter
			if x, fresh := Put(n, h^1<<i, pairOf("c", "w"), &m); len(layout.Shape(x)) != i/5+1+2 || !fresh || m != (meter.Meter{}) {
				t.Fatal(h, i, layout.Shape(x), fresh, m)
			}
		}
	}
}

// P19.1: down branches to each level, the last one among them: the way ends at a leaf or at a bucket, with the hash or with another one, or at a branch without such a child.
func TestIntoBranches(t *testing.T) {
	for last := range api.Levels {
		for _, h := range []uint64{0, math.MaxUint64, 0x0123456789abcdef, 1 << 63, 1 << 59} {
			g := h ^ 1<<(5*last)
			l := append(under(g, "b", "d", "f"), entry(h, "k", "v"))
			n := layout.Of(l)
			for _, e := range []layout.Entry{entry(h, "k", "w"), entry(h, "k", "v"), entry(h, "j", "w"), entry(h, "", ""), entry(g, "b", "w"), entry(g, "d", ""), entry(g, "a", "w"), entry(g, "e", "w"), entry(g, "", "")} {
				puts(t, "a hash that is there", n, l, e)
			}
			for i := range 64 {
				puts(t, "beside the leaf's hash", n, l, entry(h^1<<i, keyFor(h^1<<i, g), "w"))
				puts(t, "beside the bucket's hash", n, l, entry(g^1<<i, keyFor(g^1<<i, g), "w"))
			}
			var m meter.Meter
			if x, fresh := Put(n, h, pairOf("l", "w"), &m); len(layout.Shape(x)) != last+3 || !fresh || m != (meter.Meter{Visits: last + 2, Compares: 1}) {
				t.Fatal(last, h, layout.Shape(x), fresh, m)
			}
		}
	}
}

// keyFor is a key that may stand under a hash in TestIntoBranches: one that is there under no other hash.
func keyFor(h, bucket uint64) string {
	if h == bucket {
		return "d"
	}
	return "c"
}

// P19.1: a branch without such a child gets a leaf for each chunk that it lacks, in its place among the others; a visit for each branch, and none of a leaf.
func TestNoSuchChild(t *testing.T) {
	for level := range api.Levels {
		least := uint64(0x5555555555555555)
		least &= 1<<(5*level) - 1
		l := []layout.Entry{named(least|3<<(5*level), "a"), named(least|9<<(5*level), "b"), named(least|9<<(5*level), "c")}
		n := layout.Of(l)
		for c := range uint64(32) {
			h := least | c<<(5*level)
			key := "k"
			if h == l[1].Hash {
				key = "c"
			}
			puts(t, "each chunk", n, l, named(h, key))
		}
		var m meter.Meter
		if x, fresh := Put(n, least|8<<(5*level), pairOf("k", "v"), &m); x.Count() != 4 || !fresh || m != (meter.Meter{Visits: level + 1}) {
			t.Fatal(level, fresh, m)
		}
	}
}

// P19.1: a branch of many children, and of one for each chunk: one is turned, all others are as they were.
func TestManyChildren(t *testing.T) {
	var l []layout.Entry
	for c := range uint64(32) {
		l = append(l, named(c|1<<40, "key "+strconv.Itoa(int(c))))
	}
	for size := range 33 {
		for c := range uint64(32) {
			putsAll(t, "a key of its own", l[:size], entry(c|1<<40, "key "+strconv.Itoa(int(c)), "w"))
			grown(t, "another hash", layout.Of(l[:size]), l[:size], entry(c|1<<41, "k", "w"))
		}
	}
}

// P19.1: at the last level chunks have four bits: 16 hashes that part there alone, in each order of rising, falling and mixed.
func TestLastLevel(t *testing.T) {
	const low = 0x0123456789abcdef
	for _, step := range []int{1, 15, 3, 5, 7} {
		var n node.Node
		var l []layout.Entry
		for i := range 16 {
			e := named(low|uint64(i*step%16)<<60, "k"+strconv.Itoa(i))
			if hasHash(l, e.Hash) {
				e = named(e.Hash, "another k"+strconv.Itoa(i))
			}
			n = puts(t, "the last level", n, l, e)
			l = append(l, e)
		}
	}
}

func hasHash(l []layout.Entry, h uint64) bool {
	return slices.ContainsFunc(l, func(e layout.Entry) bool { return e.Hash == h })
}

// P19.1: empty keys and empty values are as all others, in leaves and in buckets, above and below branches; no bytes and nil are one.
func TestEmpty(t *testing.T) {
	for _, l := range [][]layout.Entry{
		nil,
		{entry(5, "", "")},
		{entry(5, "k", "")},
		{entry(5, "", ""), entry(5, "k", "v")},
		{entry(5, "", "v"), entry(5, "k", ""), entry(5, "l", "")},
		{entry(5, "", ""), entry(37, "k", "v")},
		{entry(5, "", ""), entry(5, "a", ""), entry(37, "k", "")},
	} {
		putsAll(t, "empty", l, entry(5, "", ""), entry(5, "", "w"), layout.Entry{Hash: 5}, layout.Entry{Hash: 5, Pair: api.Pair{Key: []byte{}, Value: nil}}, entry(5, "z", ""))
	}
	putsAll(t, "the zero pair under another hash", []layout.Entry{entry(5, "k", "")}, layout.Entry{Hash: 0}, layout.Entry{Hash: math.MaxUint64})
}

// P19.1: keys and values of all kinds and lengths, put one by one, at leaves and in buckets, below branches or not.
func TestOddPairs(t *testing.T) {
	for _, hashes := range [][]uint64{{9}, {9, 9 + 32}, {0, math.MaxUint64, 1 << 63}, edgeHashes()} {
		var n node.Node
		var l []layout.Entry
		for round := range 2 {
			for i, k := range oddKeys() {
				e := entry(hashes[i%len(hashes)], k, oddKeys()[(i+round)%len(oddKeys())])
				n = puts(t, "odd pairs", n, l, e)
				l = append(l, e)
			}
		}
	}
}

// permuted hands in each order of a list once.
func permuted(l []layout.Entry, each func(l []layout.Entry)) {
	if len(l) == 0 {
		each(nil)
	}
	for i, e := range l {
		others := slices.Delete(slices.Clone(l), i, i+1)
		permuted(others, func(rest []layout.Entry) { each(behind(rest, e)) })
	}
}

// P19.1: in any order put, one by one, at each step the node is the layout, and what comes of all is the same.
func TestEachOrder(t *testing.T) {
	for _, l := range [][]layout.Entry{
		{named(5, "a"), named(5, "b"), named(5, "c"), named(5, "d"), named(5, "e")},
		{named(5, "a"), named(5, "b"), named(5^1<<63, "c"), named(5^1<<63, "d"), named(37, "e")},
		{named(0, "a"), named(32, "b"), named(64, "c"), named(1<<63, "d"), named(math.MaxUint64, "")},
		{named(1, "a"), named(2, "b"), named(3, "c"), named(31, "d"), named(0, "e")},
	} {
		all := layout.Of(l)
		permuted(l, func(order []layout.Entry) {
			var n node.Node
			for i, e := range order {
				n = grown(t, "each order", n, order[:i], e)
			}
			if !layout.Same(n, all) {
				t.Fatal("another order leads to another node", order)
			}
		})
	}
}

// family is hashes of one kind, for as many keys as there are.
type family struct {
	what string
	hash func(i int) uint64
}

// families are hashes of every kind.
func families() []family {
	r := rand.New(rand.NewSource(19))
	return []family{
		{"one hash", func(int) uint64 { return 0x0123456789abcdef }},
		{"the least hash", func(int) uint64 { return 0 }},
		{"the greatest hash", func(int) uint64 { return math.MaxUint64 }},
		{"the last level alone", func(i int) uint64 { return uint64(i) << 60 }},
		{"the highest bit alone", func(i int) uint64 { return 0xfff | uint64(i)<<63 }},
		{"the first level alone", func(i int) uint64 { return uint64(i % 32) }},
		{"the first and the last level", func(i int) uint64 { return uint64(i%3) | uint64(i)<<62 }},
		{"one bit", func(i int) uint64 { return 1 << (i % 64) }},
		{"all but one bit", func(i int) uint64 { return ^uint64(1 << (i % 64)) }},
		{"rising", func(i int) uint64 { return uint64(i) }},
		{"rising from above", func(i int) uint64 { return uint64(i) << 50 }},
		{"chance", func(int) uint64 { return r.Uint64() }},
		{"few", func(int) uint64 { return uint64(r.Intn(8)) << 61 }},
		{"all but one under one hash", func(i int) uint64 { return uint64(min(i, 1)) << 63 }},
		{"two hashes till the last level", func(i int) uint64 { return uint64(i%2)<<63 | 77 }},
	}
}

// unlike is so many entries of unlike keys.
func unlike(n int, hash func(i int) uint64) []layout.Entry {
	var l []layout.Entry
	for i := range n {
		l = append(l, named(hash(i), "key "+strconv.Itoa(i)))
	}
	return l
}

// orders are ways to put entries one behind the other.
func orders(l []layout.Entry) [][]layout.Entry {
	falling := slices.Clone(l)
	slices.Reverse(falling)
	mixed := slices.Clone(l)
	rand.New(rand.NewSource(191)).Shuffle(len(mixed), func(i, j int) { mixed[i], mixed[j] = mixed[j], mixed[i] })
	return [][]layout.Entry{l, falling, mixed}
}

// P19.1, P19.2, P19.3: many pairs of hashes of every kind, put one by one in any order: at each step the node is the layout, and all is told and counted as is said, within the bound; behind all of them each version is what it was.
func TestMany(t *testing.T) {
	for _, f := range families() {
		for _, l := range orders(unlike(90, f.hash)) {
			versions := []node.Node{nil}
			for i, e := range l {
				versions = append(versions, grown(t, f.what, versions[i], l[:i], e))
			}
			for i, n := range versions {
				isLayout(t, f.what+": a version", n, l[:i])
			}
		}
	}
}

// bound is layer 9's sentence: 17, and the greatest whole number that isn't above six times the logarithm of n + 1 to the base 2: so as often as n + 1 to the power 6, which has to be below 2^64 here, can be halved, till it is 1.
func bound(n int) int {
	power := uint64(1)
	for range 6 {
		power *= uint64(n) + 1
	}
	b := 17
	for power > 1 {
		power /= 2
		b++
	}
	return b
}

// P19.3: whatever the hashes are, the visits are within the bound for as many pairs as there are ahead of the call, and no more keys are compared than nodes visited: of keys that are there, and of such that aren't, under hashes that are there, and beside them.
func TestWithinBound(t *testing.T) {
	for _, f := range families() {
		for _, size := range []int{0, 1, 2, 3, 4, 7, 8, 15, 16, 17, 31, 63, 64, 100, 257, 1000} {
			l := unlike(size, f.hash)
			n := layout.Of(l)
			trees := treesOf(n, map[uint64]*tree.Tree{})
			for i := 0; i <= size; i += 1 + size/16 {
				h, k := f.hash(i), "key"
				if i < size {
					h, k = l[i].Hash, string(l[i].Pair.Key)
				}
				for _, e := range []layout.Entry{entry(h, k, "w"), entry(h, "key "+k, "w"), entry(h, "", "w"), entry(h^1, "l", "w"), entry(h^1<<63, "a", "w")} {
					var m meter.Meter
					x, fresh := Put(n, e.Hash, e.Pair, &m)
					if fresh == hasKey(l, string(e.Pair.Key)) || fresh != (x.Count() == size+1) {
						t.Fatalf("%s: %d pairs: %q: %v", f.what, size, e.Pair.Key, fresh)
					}
					if w := passed(l, e.Hash, string(e.Pair.Key), trees); m != w || m.Visits > bound(size) || m.Visits > meter.Bound(size) || m.Compares > m.Visits || !m.Within(size) {
						t.Fatalf("%s: %d pairs: %v is not %v, or above %d", f.what, size, m, w, bound(size))
					}
				}
			}
		}
	}
}

// P19.3: thousands of keys under one hash, put one by one below as many branches as there may be: each step is within the bound, and some are so long that a bound for a lesser number would be too near.
func TestGreatBucketBelowAllBranches(t *testing.T) {
	const size = 20000
	for _, l := range orders(unlike(size, func(i int) uint64 { return uint64(min(i, 1)) << 63 })) {
		var n node.Node
		most := 0
		for i, e := range l {
			var m meter.Meter
			x, fresh := Put(n, e.Hash, e.Pair, &m)
			if !fresh || x.Count() != i+1 || !m.Within(i) || m.Visits > bound(min(i, 1000)) && i <= 1000 {
				t.Fatalf("%d keys: %v, %v, not within %d", i, fresh, m, meter.Bound(i))
			}
			most = max(most, m.Visits)
			n = x
		}
		if most < api.Levels+10 || !layout.Same(n, layout.Of(l)) {
			t.Fatalf("%d visits at most: no such way is as long as it has to be; or not the layout", most)
		}
		for c, x := range treesOf(n, map[uint64]*tree.Tree{}) {
			if !x.Sound() {
				t.Fatal("a bucket's tree isn't sound", c)
			}
		}
	}
}

// chanceHashes are hashes that fall together often, part at all levels, or are any.
func chanceHashes(r *rand.Rand) []uint64 {
	few := []uint64{r.Uint64(), r.Uint64(), 0, math.MaxUint64}
	var l []uint64
	for range 1 + r.Intn(30) {
		h := few[r.Intn(len(few))]
		switch r.Intn(5) {
		case 0:
			h = r.Uint64()
		case 1:
			h ^= 1 << r.Intn(64)
		case 2:
			h ^= uint64(r.Intn(16)) << 60
		case 3:
			h ^= uint64(r.Intn(64))
		}
		l = append(l, h)
	}
	return l
}

// P19.1, P19.2: entries of every sort at random, keys again and again among them, each under its one hash: each step, from any earlier version on, leads to the layout, and all versions stay.
func TestAtRandom(t *testing.T) {
	r := rand.New(rand.NewSource(1919))
	type version struct {
		n node.Node
		l []layout.Entry
	}
	for range 250 {
		hashes := chanceHashes(r)
		keys := 1 + r.Intn(40)
		all := []version{{}}
		for step := range 40 {
			from := all[len(all)-1]
			if r.Intn(6) == 0 {
				from = all[r.Intn(len(all))]
			}
			k := r.Intn(keys)
			e := entry(hashes[k%len(hashes)], "k"+strconv.Itoa(k), strconv.Itoa(r.Intn(step+1)))
			all = append(all, version{n: grown(t, "at random", from.n, from.l, e), l: behind(from.l, e)})
		}
		for _, v := range all {
			isLayout(t, "a version at random", v.n, v.l)
		}
	}
}

// roomy is bytes with others behind their length.
func roomy(b []byte) []byte {
	return append(slices.Clone(b), "behind the length"...)[:len(b)]
}

// spoil writes over bytes, and over all that lies behind their length.
func spoil(b []byte) {
	b = b[:cap(b)]
	for i := range b {
		b[i] ^= 0x55
	}
}

// P19.2 and rule 2: what was handed in may be written over behind; rule 7: what lies behind its length is neither read nor written.
func TestMemory(t *testing.T) {
	l := []layout.Entry{named(1, "a"), named(1, "b"), named(1, "c"), named(1, "a"), named(33, "d"), named(33^1<<63, "e"), named(33, "d"), named(7, ""), named(1, "bb"), entry(33, "d", "")}
	var n node.Node
	versions := []node.Node{nil}
	for i, e := range l {
		p := api.Pair{Key: roomy(e.Pair.Key), Value: roomy(e.Pair.Value)}
		key, value := slices.Clone(p.Key[:cap(p.Key)]), slices.Clone(p.Value[:cap(p.Value)])
		n, _ = Put(n, e.Hash, p, nil)
		if !bytes.Equal(p.Key[:cap(p.Key)], key) || !bytes.Equal(p.Value[:cap(p.Value)], value) {
			t.Fatal("what was handed in was written into", e)
		}
		spoil(p.Key)
		spoil(p.Value)
		isLayout(t, "written over behind", n, l[:i+1])
		versions = append(versions, n)
	}
	for i, v := range versions {
		isLayout(t, "a version", v, l[:i])
		for _, p := range node.Pairs(v) {
			spoil(p.Key)
			spoil(p.Value)
		}
		isLayout(t, "a version whose pairs were written over", v, l[:i])
	}
}

// P19.2: the nodes, trees and lists of which a node was made are as they were, behind whatever is put.
func TestMemoryOfWhatWasMade(t *testing.T) {
	x := tree.From([]api.Pair{pairOf("b", "2"), pairOf("d", "4")})
	kids := []node.Node{node.Leaf(3, pairOf("a", "1")), node.Bucket(4, x)}
	n := node.Branch(bits.Of(3, 4), kids...)
	l := []layout.Entry{entry(3, "a", "1"), entry(4, "b", "2"), entry(4, "d", "4")}
	for _, e := range []layout.Entry{entry(3, "a", "9"), entry(3, "c", "9"), entry(4, "b", "9"), entry(4, "c", "9"), entry(5, "c", "9"), entry(3+32, "c", "9"), entry(4+32, "c", "9")} {
		puts(t, "a branch", n, l, e)
		isLayout(t, "the leaf", kids[0], l[:1])
		isLayout(t, "the bucket", kids[1], l[1:])
		if list := x.List(); len(list) != 2 || !samePair(list[0], l[1].Pair) || !samePair(list[1], l[2].Pair) {
			t.Fatal("the tree was changed", list)
		}
	}
}

// P19.1: the meter alone is written into, and it counts on from call to call; nothing else of one call is left for the next.
func TestCallsDontTouchEachOther(t *testing.T) {
	l := unlike(40, func(i int) uint64 { return uint64(i%5) << 59 })
	var m, all meter.Meter
	var first, second node.Node
	for i, e := range l {
		w := passed(l[:i], e.Hash, string(e.Pair.Key), treesOf(first, map[uint64]*tree.Tree{}))
		all.Visits += w.Visits
		all.Compares += w.Compares
		first, _ = Put(first, e.Hash, e.Pair, &m)
		o := l[len(l)-1-i]
		second, _ = Put(second, o.Hash, o.Pair, nil)
		if m != all {
			t.Fatalf("%d: %v, not %v", i, m, all)
		}
	}
	isLayout(t, "one of two", first, l)
	isLayout(t, "two of two", second, l)
}

// stranger has a node's methods, but isn't one; it can't be compared either.
type stranger struct{ l []int }

func (s stranger) Kind() int { panic("a stranger was asked") }

func (s stranger) Count() int { panic("a stranger was asked") }

// Rule 6, and layer 16: what is no node has no pairs: it counts as nothing.
func TestStrangers(t *testing.T) {
	var none *stranger
	for _, n := range []node.Node{stranger{l: []int{1}}, none} {
		var m meter.Meter
		x, fresh := Put(n, 5, pairOf("k", "v"), &m)
		isLayout(t, "into a stranger", x, []layout.Entry{entry(5, "k", "v")})
		if !fresh || m != (meter.Meter{}) {
			t.Error(fresh, m)
		}
	}
}

// P1: no call panics, and each ends, of nodes that aren't right, of others' layouts and of a key under another hash, too: of those the chapter promises nothing else.
func TestWrongNodes(t *testing.T) {
	deep := node.Leaf(0, pairOf("k", "v"))
	for range 1 << 16 {
		deep = node.Branch(bits.Of(0), deep)
	}
	unsorted := tree.From([]api.Pair{pairOf("b", "1"), pairOf("a", "2"), pairOf("b", "3")})
	several := node.Bucket(1<<63, tree.From([]api.Pair{pairOf("a", "1"), pairOf("b", "2")}))
	for range 20 {
		several = node.Branch(bits.Of(0, 8, 15, 31), several, several, node.Leaf(5, pairOf("k", "v")), several)
	}
	for _, n := range []node.Node{
		deep,
		several,
		node.Branch(bits.Of(3), node.Leaf(9, pairOf("k", "v"))),
		node.Branch(bits.Of(3, 4), node.Leaf(4, pairOf("k", "v")), node.Leaf(3, pairOf("k", "v"))),
		node.Branch(bits.Of(3), node.Branch(bits.Of(0), node.Leaf(1, pairOf("k", "v")))),
		node.Bucket(5, unsorted),
		layout.Of(under(7, "k", "b")),
	} {
		for _, h := range edgeHashes()[:8] {
			Put(n, h, pairOf("k", "v"), nil)
			Put(n, h, pairOf("b", "v"), &meter.Meter{})
			Put(n, h, api.Pair{}, nil)
		}
	}
}
