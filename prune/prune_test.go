package prune

import (
	"bytes"
	"math"
	"math/rand"
	"slices"
	"strconv"
	"testing"

	"brushwood/api"
	"brushwood/bits"
	"brushwood/graft"
	"brushwood/layout"
	"brushwood/meter"
	"brushwood/node"
	"brushwood/tree"
)

func pairOf(key, value string) api.Pair {
	return api.Pair{Key: []byte(key), Value: []byte(value)}
}

func entry(h uint64, key, value string) layout.Entry {
	return layout.Entry{Hash: h, Pair: pairOf(key, value)}
}

// named is an entry of a hash and a key, with a value that tells of both.
func named(h uint64, key string) layout.Entry {
	return entry(h, key, key+" under "+strconv.FormatUint(h, 16))
}

// without is a list of all entries but those with a key, in memory of its own.
func without(l []layout.Entry, key string) []layout.Entry {
	return slices.DeleteFunc(slices.Clone(l), func(e layout.Entry) bool { return string(e.Pair.Key) == key })
}

// hasKey tells whether an entry has that key.
func hasKey(l []layout.Entry, key string) bool {
	return slices.ContainsFunc(l, func(e layout.Entry) bool { return string(e.Pair.Key) == key })
}

// chunkAt is layer 6's sentence: the number of five bits, at the level 12 of four.
func chunkAt(h uint64, level int) int {
	c := 0
	for i := 4; i >= 0; i-- {
		c *= 2
		if 5*level+i < 64 && h&(1<<(5*level+i)) != 0 {
			c++
		}
	}
	return c
}

// isLaid fails, if a node isn't the layout of entries of unlike keys at a level, part by part, as layer 17 says it.
func isLaid(t *testing.T, what string, n node.Node, l []layout.Entry, level int) {
	t.Helper()
	if len(l) == 0 {
		if n != nil {
			t.Fatalf("%s: not nothing", what)
		}
		return
	}
	if n == nil || n.Count() != len(l) {
		t.Fatalf("%s: %v isn't a node of %d pairs", what, n, len(l))
	}
	other := slices.ContainsFunc(l, func(e layout.Entry) bool { return e.Hash != l[0].Hash })
	switch {
	case len(l) == 1:
		isLeafOf(t, what, n, l[0])
	case !other:
		isBucketOf(t, what, n, l)
	default:
		isBranchOf(t, what, n, l, level)
	}
}

func isLeafOf(t *testing.T, what string, n node.Node, e layout.Entry) {
	t.Helper()
	h, _ := node.Hash(n)
	p, ok := node.Pair(n)
	if n.Kind() != 1 || !ok || h != e.Hash || !samePair(p, e.Pair) {
		t.Fatalf("%s: not a leaf of %x and %.40q, but %x and %.40q", what, e.Hash, e.Pair, h, p)
	}
}

func samePair(p, q api.Pair) bool {
	return string(p.Key) == string(q.Key) && string(p.Value) == string(q.Value)
}

func isBucketOf(t *testing.T, what string, n node.Node, l []layout.Entry) {
	t.Helper()
	h, _ := node.Hash(n)
	x, ok := node.Tree(n)
	if n.Kind() != 2 || !ok || h != l[0].Hash || !x.Sound() {
		t.Fatalf("%s: not a bucket of %x with a sound tree, but of %x", what, l[0].Hash, h)
	}
	values := map[string]string{}
	for _, p := range x.List() {
		values[string(p.Key)] = string(p.Value)
	}
	for _, e := range l {
		if v, ok := values[string(e.Pair.Key)]; !ok || v != string(e.Pair.Value) || x.Size() != len(l) {
			t.Fatalf("%s: a bucket of %d pairs, which has %.40q for %.40q, not %.40q", what, x.Size(), v, e.Pair.Key, e.Pair.Value)
		}
	}
}

func isBranchOf(t *testing.T, what string, n node.Node, l []layout.Entry, level int) {
	t.Helper()
	var parts [32][]layout.Entry
	var numbers []int
	for _, e := range l {
		c := chunkAt(e.Hash, level)
		parts[c] = append(parts[c], e)
		if len(parts[c]) == 1 {
			numbers = append(numbers, c)
		}
	}
	if set, ok := node.Map(n); n.Kind() != 3 || !ok || set != bits.Of(numbers...) {
		t.Fatalf("%s: at the level %d not a branch of %v, but of the kind %d, of %b", what, level, numbers, n.Kind(), set)
	}
	for _, c := range numbers {
		kid, _ := node.Kid(n, c)
		isLaid(t, what, kid, parts[c], level+1)
	}
}

// isLayout fails, if a node isn't the layout of entries of unlike keys, node for node.
func isLayout(t *testing.T, what string, n node.Node, l []layout.Entry) {
	t.Helper()
	isLaid(t, what, n, l, 0)
	if o := layout.Of(l); !layout.Same(n, o) || !slices.Equal(layout.Shape(n), layout.Shape(o)) || n != nil && !node.Right(n, 0) {
		t.Fatalf("%s: not the same as the layout, or not right", what)
	}
}

// inTree is what layer 11's Delete visits: from the root on the nodes at which it comes by, as it seeks the key; of a node with the key and a left tree it goes on through the right one, for the first pair.
func inTree(x *tree.Tree, key string) meter.Meter {
	var m meter.Meter
	for x != nil {
		m.Visits++
		m.Compares++
		own := string(x.Root().Key)
		if own == key {
			break
		}
		if key < own {
			x = x.Left()
		} else {
			x = x.Right()
		}
	}
	if x != nil && x.Left() != nil {
		for r := x.Right(); r != nil; r = r.Left() {
			m.Visits++
		}
	}
	return m
}

// passed is the chapter's sentence on visits, of entries of unlike keys: a node of their layout is a branch as long as they have more than one hash, and the way goes on with those that have the chunk of h.
// A bucket's tree may have any shape: so what stands in the node is handed in, by its hash.
func passed(l []layout.Entry, h uint64, key string, trees map[uint64]*tree.Tree) meter.Meter {
	branches := 0
	for slices.ContainsFunc(l, func(e layout.Entry) bool { return e.Hash != l[0].Hash }) {
		var those []layout.Entry
		for _, e := range l {
			if chunkAt(e.Hash, branches) == chunkAt(h, branches) {
				those = append(those, e)
			}
		}
		l = those
		branches++
	}
	m := meter.Meter{Visits: branches}
	switch {
	case len(l) == 1:
		m.Visits++
		if l[0].Hash == h {
			m.Compares++
		}
	case len(l) > 1 && l[0].Hash == h:
		b := inTree(trees[h], key)
		m.Visits += b.Visits
		m.Compares += b.Compares
	}
	return m
}

// treesOf is the trees of all buckets of a node, by their hashes, laid into a map.
func treesOf(n node.Node, trees map[uint64]*tree.Tree) map[uint64]*tree.Tree {
	if x, ok := node.Tree(n); ok {
		h, _ := node.Hash(n)
		trees[h] = x
	}
	for c := range 32 {
		if kid, ok := node.Kid(n, c); ok {
			treesOf(kid, trees)
		}
	}
	return trees
}

// plus is a sum that doesn't go round.
func plus(a, b int) int {
	if a > math.MaxInt-b {
		return math.MaxInt
	}
	return a + b
}

// fits fails, if of a key that is there its hash is another one: of that the chapter promises nothing.
func fits(t *testing.T, what string, l []layout.Entry, h uint64, key string) {
	t.Helper()
	for _, e := range l {
		if string(e.Pair.Key) == key && e.Hash != h {
			t.Fatalf("%s: the chapter promises nothing of the key %.40q under another hash", what, key)
		}
	}
}

// shrunk deletes a key from a node that is the layout of l, and fails, if all that comes of it, and all that is counted, isn't as the chapter says it; it tells what is left.
func shrunk(t *testing.T, what string, n node.Node, l []layout.Entry, h uint64, key string) node.Node {
	t.Helper()
	fits(t, what, l, h, key)
	var m meter.Meter
	x, had := Delete(n, h, []byte(key), &m)
	isLayout(t, what, x, without(l, key))
	if had != hasKey(l, key) {
		t.Fatalf("%s: %x, %.40q: told that one had the key: %v", what, h, key, had)
	}
	if !had && x != n {
		t.Fatalf("%s: %x, %.40q: none has the key, but it isn't the node itself", what, h, key)
	}
	if w := passed(l, h, key, treesOf(n, map[uint64]*tree.Tree{})); m != w {
		t.Fatalf("%s: %x, %.40q: %v are counted, not %v", what, h, key, m, w)
	}
	if !m.Within(len(l)) {
		t.Fatalf("%s: %x, %.40q: %v isn't within the bound for %d", what, h, key, m, len(l))
	}
	return x
}

// cuts is shrunk with each kind of meter: one that is new, one that has counted, one that is full, and none; and behind them n still is the layout of l.
func cuts(t *testing.T, what string, n node.Node, l []layout.Entry, h uint64, key string) node.Node {
	t.Helper()
	x := shrunk(t, what, n, l, h, key)
	w := passed(l, h, key, treesOf(n, map[uint64]*tree.Tree{}))
	for _, first := range []meter.Meter{{Visits: 100, Compares: 30}, {Visits: -5, Compares: 7}, {Visits: math.MaxInt, Compares: math.MaxInt}} {
		m := first
		y, had := Delete(n, h, []byte(key), &m)
		if !layout.Same(x, y) || had != hasKey(l, key) || !had && y != n {
			t.Fatalf("%s: another meter, another answer", what)
		}
		if want := (meter.Meter{Visits: plus(first.Visits, w.Visits), Compares: plus(first.Compares, w.Compares)}); m != want {
			t.Fatalf("%s: a meter of %v: %v, not %v", what, first, m, want)
		}
	}
	if y, had := Delete(n, h, []byte(key), nil); !layout.Same(x, y) || had != hasKey(l, key) || !had && y != n {
		t.Fatalf("%s: no meter, another answer", what)
	}
	isLayout(t, what+": the old one", n, l)
	return x
}

// cutsAll is cuts of each of its own keys, and of each of others under each of some hashes, from the layout of l.
func cutsAll(t *testing.T, what string, l []layout.Entry, hashes []uint64, others ...string) {
	t.Helper()
	n := layout.Of(l)
	for _, e := range l {
		cuts(t, what, n, l, e.Hash, string(e.Pair.Key))
	}
	for _, h := range hashes {
		for _, k := range others {
			cuts(t, what, n, l, h, k)
		}
	}
}

// emptied deletes all keys of l in its order, from its layout, till nothing is left; it tells all versions.
func emptied(t *testing.T, what string, l []layout.Entry) []node.Node {
	t.Helper()
	versions := []node.Node{layout.Of(l)}
	for i, e := range l {
		versions = append(versions, shrunk(t, what, versions[i], l[i:], e.Hash, string(e.Pair.Key)))
	}
	if last := versions[len(l)]; last != nil {
		t.Fatalf("%s: %v is left, not nothing", what, last)
	}
	return versions
}

// edgeHashes are the least and the greatest one, and those with one bit alone, or lacking.
func edgeHashes() []uint64 {
	l := []uint64{0, math.MaxUint64, 0x0123456789abcdef, 0xfedcba9876543210}
	for i := range 64 {
		l = append(l, 1<<i, ^uint64(1<<i))
	}
	return l
}

// oddKeys are empty, short, long and strange.
func oddKeys() []string {
	long := string(bytes.Repeat([]byte{0xff}, api.MaxKey))
	return []string{"", "\x00", "\x00\x00", "k", "k\x00", "k\xff", "l", "\x80", "\xff\xfe", long[1:], long}
}

// under is entries of one hash, each with the value "v" and its key.
func under(h uint64, keys ...string) []layout.Entry {
	var l []layout.Entry
	for _, k := range keys {
		l = append(l, entry(h, k, "v"+k))
	}
	return l
}

// permuted hands in each order of a list once.
func permuted(l []layout.Entry, each func(l []layout.Entry)) {
	if len(l) == 0 {
		each(nil)
	}
	for i, e := range l {
		others := slices.Delete(slices.Clone(l), i, i+1)
		permuted(others, func(rest []layout.Entry) { each(append(slices.Clone(rest), e)) })
	}
}

// family is hashes of one kind, for as many keys as there are.
type family struct {
	what string
	hash func(i int) uint64
}

// families are hashes of every kind.
func families() []family {
	r := rand.New(rand.NewSource(20))
	return []family{
		{"one hash", func(int) uint64 { return 0x0123456789abcdef }},
		{"the least hash", func(int) uint64 { return 0 }},
		{"the greatest hash", func(int) uint64 { return math.MaxUint64 }},
		{"the last level alone", func(i int) uint64 { return uint64(i) << 60 }},
		{"the highest bit alone", func(i int) uint64 { return 0xfff | uint64(i)<<63 }},
		{"the first level alone", func(i int) uint64 { return uint64(i % 32) }},
		{"the first and the last level", func(i int) uint64 { return uint64(i%3) | uint64(i)<<62 }},
		{"one bit", func(i int) uint64 { return 1 << (i % 64) }},
		{"all but one bit", func(i int) uint64 { return ^uint64(1 << (i % 64)) }},
		{"rising", func(i int) uint64 { return uint64(i) }},
		{"rising from above", func(i int) uint64 { return uint64(i) << 50 }},
		{"chance", func(int) uint64 { return r.Uint64() }},
		{"few", func(int) uint64 { return uint64(r.Intn(8)) << 61 }},
		{"all but one under one hash", func(i int) uint64 { return uint64(min(i, 1)) << 63 }},
		{"two hashes till the last level", func(i int) uint64 { return uint64(i%2)<<63 | 77 }},
	}
}

// unlike is so many entries of unlike keys.
func unlike(n int, hash func(i int) uint64) []layout.Entry {
	var l []layout.Entry
	for i := range n {
		l = append(l, named(hash(i), "key "+strconv.Itoa(i)))
	}
	return l
}

// orders are ways to put entries one behind the other.
func orders(l []layout.Entry) [][]layout.Entry {
	falling := slices.Clone(l)
	slices.Reverse(falling)
	mixed := slices.Clone(l)
	rand.New(rand.NewSource(201)).Shuffle(len(mixed), func(i, j int) { mixed[i], mixed[j] = mixed[j], mixed[i] })
	return [][]layout.Entry{l, falling, mixed}
}

// P20.1: the chapter's example: the only pair of a leaf: nothing, and true.
func TestExample(t *testing.T) {
	var m meter.Meter
	n, had := Delete(node.Leaf(5, pairOf("k", "v")), 5, []byte("k"), &m)
	if n != nil || !had || m != (meter.Meter{Visits: 1, Compares: 1}) {
		t.Error(n, had, m)
	}
}

// P20.1: from nothing, whatever the hash and the key are: nothing, false, and no visit.
func TestFromNothing(t *testing.T) {
	for _, h := range edgeHashes() {
		for _, k := range oddKeys() {
			cuts(t, "from nothing", nil, nil, h, k)
		}
		var m meter.Meter
		if n, had := Delete(nil, h, nil, &m); n != nil || had || m != (meter.Meter{}) {
			t.Error(h, n, had, m)
		}
	}
}

// P20.1: from a leaf with the hash and the key: nothing, and true, whatever both are.
func TestFromLeafWithKey(t *testing.T) {
	for i, h := range edgeHashes() {
		for _, k := range oddKeys() {
			v := oddKeys()[i%len(oddKeys())]
			n := node.Leaf(h, pairOf(k, v))
			if x := cuts(t, "the hash and the key", n, []layout.Entry{entry(h, k, v)}, h, k); x != nil {
				t.Fatal(h, k, x)
			}
		}
	}
}

// P20.1: from a leaf with the hash, but another key: the leaf itself, and false; one visit, one compare.
func TestFromLeafWithHash(t *testing.T) {
	for _, h := range edgeHashes() {
		l := []layout.Entry{entry(h, "k", "v")}
		n := layout.Of(l)
		for _, k := range []string{"", "\x00", "j", "jz", "K", "k\x00", "kk", "l", "\xff", "v"} {
			cuts(t, "the hash, another key", n, l, h, k)
			var m meter.Meter
			if x, had := Delete(n, h, []byte(k), &m); x != n || had || m != (meter.Meter{Visits: 1, Compares: 1}) {
				t.Fatal(h, k, x, had, m)
			}
		}
	}
}

// P20.1: from a leaf with another hash, be it by a bit: the leaf itself, and false; one visit, no compare.
func TestFromLeafWithAnotherHash(t *testing.T) {
	for _, h := range edgeHashes() {
		l := []layout.Entry{entry(h, "k", "v")}
		n := layout.Of(l)
		for i := range 64 {
			for _, k := range []string{"", "j", "kk"} {
				var m meter.Meter
				x, had := Delete(n, h^1<<i, []byte(k), &m)
				if x != n || had || m != (meter.Meter{Visits: 1}) {
					t.Fatal(h, i, k, x, had, m)
				}
			}
		}
		cutsAll(t, "another hash", l, []uint64{^h, h + 1, h - 1, h ^ 1<<63}, "", "j", "\xff")
	}
}

// P20.1: from a bucket with the hash, of a key that it has, and of one that it hasn't, at each place among its keys.
func TestFromBucketWithHash(t *testing.T) {
	for _, h := range []uint64{0, 5, 1 << 63, math.MaxUint64} {
		for _, keys := range [][]string{{"b", "d"}, {"", "b"}, {"b", "d", "f"}, {"", "b", "d", "f"}, {"b", "d", "f", "h", "j"}, {"", "b", "d", "f", "h", "j", "l"}} {
			cutsAll(t, "a bucket with the hash", under(h, keys...), []uint64{h}, "a", "c", "e", "g", "i", "k", "m", "bb", "\x00", "\xff")
		}
	}
}

// P20.1: of a bucket's three pairs two are left, a bucket; of two one is left, a leaf, with its own pair and the bucket's hash; of that one nothing.
func TestBucketShrinks(t *testing.T) {
	for _, h := range edgeHashes() {
		permuted(under(h, "", "b", "c"), func(l []layout.Entry) {
			for i, n := range emptied(t, "a bucket shrinks", l) {
				if kinds := []int{api.Bucket, api.Bucket, api.Leaf}; i < 3 && n.Kind() != kinds[i] {
					t.Fatal(h, i, n.Kind())
				}
			}
		})
	}
	n, had := Delete(layout.Of(under(5, "a", "b")), 5, []byte("a"), nil)
	hash, _ := node.Hash(n)
	if p, ok := node.Pair(n); !had || !ok || hash != 5 || !samePair(p, pairOf("b", "vb")) {
		t.Error(had, hash, p)
	}
}

// P20.1: from a bucket with another hash, be it by a bit: the bucket itself, and false; no visit.
func TestFromBucketWithAnotherHash(t *testing.T) {
	for _, h := range edgeHashes() {
		l := under(h, "b", "d", "f")
		n := layout.Of(l)
		for i := range 64 {
			var m meter.Meter
			if x, had := Delete(n, h^1<<i, []byte("c"), &m); x != n || had || m != (meter.Meter{}) {
				t.Fatal(h, i, x, had, m)
			}
		}
		cutsAll(t, "a bucket with another hash", l, []uint64{^h, h + 1, h ^ 1<<63}, "", "c", "z")
	}
}

// lowBits is a hash that has bits below a level alone.
func lowBits(level int) uint64 { return 0x5555555555555555 & (1<<(5*level) - 1) }

// P20.1, P20.3: a way that ends at each level at a leaf, at a bucket, or at a branch without such a child, of a key that is there, and of one that isn't.
func TestEndOfWay(t *testing.T) {
	for level := range api.Levels {
		at := func(c uint64) uint64 { return lowBits(level) | c<<(5*level) }
		l := []layout.Entry{named(at(3), "a"), named(at(9), "b"), named(at(9), "c"), named(at(12), "d"), named(at(12), "e"), named(at(12), "f")}
		var hashes []uint64
		for c := range uint64(32) {
			hashes = append(hashes, at(c), at(c)^1<<63)
		}
		cutsAll(t, "each end", l, hashes, "", "k")
		n := layout.Of(l)
		for _, c := range []struct {
			h    uint64
			want meter.Meter
		}{
			{at(3), meter.Meter{Visits: level + 2, Compares: 1}},
			{at(4), meter.Meter{Visits: level + 1}},
		} {
			var m meter.Meter
			if x, had := Delete(n, c.h, []byte("bb"), &m); x != n || had || m != c.want {
				t.Fatal(level, c, x, had, m)
			}
		}
	}
}

// P20.1: a branch without such a child above the way's other levels: the node itself, whether the hash turns off at the first level, at the last one, or in between.
func TestTurnsOff(t *testing.T) {
	for _, h := range edgeHashes()[:24] {
		l := []layout.Entry{named(h, "a"), named(h^1<<63, "b"), named(h^1<<63, "c")}
		n := layout.Of(l)
		for i := range 64 {
			g := h ^ 1<<i
			var m meter.Meter
			x, had := Delete(n, g, []byte("k"), &m)
			if want := passed(l, g, "k", treesOf(n, map[uint64]*tree.Tree{})); x != n || had || m != want || i < 60 && m != (meter.Meter{Visits: i/5 + 1}) {
				t.Fatal(h, i, x, had, m, want)
			}
		}
		cutsAll(t, "thirteen branches", l, []uint64{h, h ^ 1<<63, h ^ 1<<60, h ^ 1, ^h}, "", "k")
	}
}

// P20.1: a branch of many children, and of one for each chunk, be they leaves, buckets or branches: one goes or is turned, all others are as they were.
func TestManyChildren(t *testing.T) {
	var leaves, buckets, branches []layout.Entry
	for c := range uint64(32) {
		k := "key " + strconv.Itoa(int(c))
		leaves = append(leaves, named(c|1<<40, k))
		buckets = append(buckets, named(c, k), named(c, k+"+"))
		branches = append(branches, named(c, k), named(c|1<<63, k+"+"))
	}
	for size := range 33 {
		cutsAll(t, "leaves", leaves[:size], []uint64{1 << 41, 31 | 1<<40, 7}, "k")
		cutsAll(t, "buckets", buckets[:size], []uint64{0, 1 << 41, 31}, "k")
		cutsAll(t, "branches", branches[:size], []uint64{0, 1 << 63, 31}, "k")
	}
	for _, l := range [][]layout.Entry{leaves, buckets, branches} {
		for _, order := range orders(l) {
			emptied(t, "many children", order)
		}
	}
}

// P20.1: an only child that is left stays below its branch, if it is a branch itself, at whatever level that is.
func TestOnlyBranchStays(t *testing.T) {
	for part := range api.Levels - 1 {
		for below := part + 1; below < api.Levels; below++ {
			x := named(1<<(5*part), "x")
			l := []layout.Entry{x, named(0, "y"), named(1<<(5*below), "z")}
			for _, all := range [][]layout.Entry{l, append(l, named(0, "yy")), append(l, named(1<<(5*below), "zz"), named(0, "yy"))} {
				n := cuts(t, "an only branch", layout.Of(all), all, x.Hash, "x")
				if set, _ := node.Map(n); n.Kind() != api.Branch || set != bits.Of(0) || len(layout.Shape(n)) != below+3 {
					t.Fatal(part, below, layout.Shape(n))
				}
			}
		}
	}
}

// P20.1: an only child that is left takes its branch's place, if it is a leaf or a bucket, and that of all branches above it that have no other child: up to one that has, or to the top.
func TestOnlyLeafRises(t *testing.T) {
	for i := range 64 {
		for _, h := range []uint64{0, math.MaxUint64, 0x0123456789abcdef} {
			x := named(h^1<<i, "x")
			leaf := []layout.Entry{x, named(h, "y")}
			if n := cuts(t, "a leaf rises", layout.Of(leaf), leaf, x.Hash, "x"); n.Kind() != api.Leaf {
				t.Fatal(i, h, layout.Shape(n))
			}
			bucket := append(leaf, named(h, "z"))
			if n := cuts(t, "a bucket rises", layout.Of(bucket), bucket, x.Hash, "x"); n.Kind() != api.Bucket {
				t.Fatal(i, h, layout.Shape(n))
			}
			if n := cuts(t, "a bucket becomes a leaf, which stays", layout.Of(bucket), bucket, h, "z"); n.Kind() != api.Branch {
				t.Fatal(i, h, layout.Shape(n))
			}
		}
	}
	for part := range api.Levels - 1 {
		for below := part + 1; below < api.Levels; below++ {
			x := named(1<<(5*below), "x")
			l := []layout.Entry{x, named(0, "y"), named(1<<(5*part), "z")}
			for _, all := range [][]layout.Entry{l, append(l, named(0, "yy")), append(l, named(1<<(5*part), "zz"), named(2<<(5*part), "w"))} {
				n := cuts(t, "up to a branch with another child", layout.Of(all), all, x.Hash, "x")
				shape := layout.Shape(n)
				if last := shape[len(shape)-1]; shape[part].Map.Count() != len(shape)-part-1 || last.Level != part+1 {
					t.Fatal(part, below, shape)
				}
			}
		}
	}
}

// P20.1: two chunks of a branch, at levels of all kinds: all couples of them; the one or the other goes.
func TestPartingChunks(t *testing.T) {
	for _, level := range []int{0, 1, 7, 11, 12} {
		for a := range uint64(32) {
			for b := range uint64(32) {
				h, g := a<<(5*level), b<<(5*level)
				if h != g {
					l := []layout.Entry{entry(h, "k", "v"), entry(g, "j", "w")}
					shrunk(t, "the one", layout.Of(l), l, h, "k")
					shrunk(t, "the other", layout.Of(l), l, g, "j")
					shrunk(t, "none", layout.Of(l), l, h, "j again")
				}
			}
		}
	}
}

// P20.1: at the last level chunks have four bits: 16 hashes that part there alone, deleted in each order of rising, falling and mixed.
func TestLastLevel(t *testing.T) {
	for _, step := range []uint64{1, 15, 3, 5, 7} {
		var l []layout.Entry
		for i := range uint64(16) {
			h := 0x0123456789abcdef ^ i*step<<60
			l = append(l, named(h, "k"+strconv.Itoa(int(i))), named(h, "another k"+strconv.Itoa(int(i))))
		}
		emptied(t, "the last level", l)
		cutsAll(t, "the last level", l, []uint64{0x0123456789abcdef, 0xf123456789abcdef, 0x0123456789abcdee}, "", "k")
	}
}

// P20.1: empty keys and empty values are as all others, in leaves and in buckets, below branches or not; no bytes and nil are one.
func TestEmpty(t *testing.T) {
	for _, l := range [][]layout.Entry{
		{entry(5, "", "")},
		{entry(5, "k", "")},
		{entry(5, "", ""), entry(5, "k", "v")},
		{entry(5, "", "v"), entry(5, "k", ""), entry(5, "l", "")},
		{entry(5, "", ""), entry(37, "k", "v")},
		{entry(5, "", ""), entry(5, "a", ""), entry(37, "k", "")},
		{{Hash: 5}, {Hash: 37, Pair: api.Pair{Key: []byte("k")}}},
	} {
		n := layout.Of(l)
		cutsAll(t, "empty", l, []uint64{5}, "", "z")
		for _, k := range [][]byte{nil, {}} {
			x, had := Delete(n, 5, k, nil)
			if had != hasKey(l, "") || !had && x != n {
				t.Fatal(l, had)
			}
			isLayout(t, "no bytes", x, without(l, ""))
		}
	}
	n, had := Delete(node.Leaf(0, api.Pair{}), 0, nil, nil)
	if n != nil || !had {
		t.Error(n, had)
	}
}

// P20.1: keys and values of all kinds and lengths, deleted one by one, from leaves and buckets, below branches or not.
func TestOddPairs(t *testing.T) {
	for _, hashes := range [][]uint64{{9}, {9, 9 + 32}, {0, math.MaxUint64, 1 << 63}, edgeHashes()} {
		var l []layout.Entry
		for i, k := range oddKeys() {
			l = append(l, entry(hashes[i%len(hashes)], k, oddKeys()[(i+1)%len(oddKeys())]))
		}
		for _, order := range orders(l) {
			emptied(t, "odd pairs", order)
		}
		cutsAll(t, "odd pairs", l, hashes[:1], "k\x00\x00", "\x80\x80")
	}
}

// P20.1: deleted in any order, one by one, at each step the node is the layout of what is left, down to nothing.
func TestEachOrder(t *testing.T) {
	for _, l := range [][]layout.Entry{
		{named(5, "a"), named(5, "b"), named(5, "c"), named(5, "d"), named(5, "e")},
		{named(5, "a"), named(5, "b"), named(5^1<<63, "c"), named(5^1<<63, "d"), named(37, "e")},
		{named(0, "a"), named(32, "b"), named(64, "c"), named(1<<63, "d"), named(math.MaxUint64, "")},
		{named(1, "a"), named(2, "b"), named(3, "c"), named(31, "d"), named(0, "e")},
		{named(7, "a"), named(7|1<<63, "b"), named(8, "c"), named(8, "d"), named(7, "e")},
		{named(0, "a"), named(1<<60, "b"), named(1<<30, "c"), named(1<<30, "d"), named(1<<5, "e")},
	} {
		permuted(l, func(order []layout.Entry) { emptied(t, "each order", order) })
	}
}

// P20.1, P20.2, P20.3: many pairs of hashes of every kind, deleted one by one in any order: at each step the node is the layout, and all is told and counted as is said, within the bound; behind all of them each version is what it was.
func TestMany(t *testing.T) {
	for _, f := range families() {
		for _, l := range orders(unlike(90, f.hash)) {
			for i, n := range emptied(t, f.what, l) {
				isLayout(t, f.what+": a version", n, l[i:])
			}
		}
	}
}

// bound is layer 9's sentence: 17, and the greatest whole number that isn't above six times the logarithm of n + 1 to the base 2: so as often as n + 1 to the power 6, which has to be below 2^64 here, can be halved, till it is 1.
func bound(n int) int {
	power := uint64(1)
	for range 6 {
		power *= uint64(n) + 1
	}
	b := 17
	for power > 1 {
		power /= 2
		b++
	}
	return b
}

// P20.3: whatever the hashes are, the visits are within the bound for as many pairs as there are ahead of the call, and no more keys are compared than nodes visited: of keys that are there, and of such that aren't, under hashes that are there, and beside them.
func TestWithinBound(t *testing.T) {
	for _, f := range families() {
		for _, size := range []int{0, 1, 2, 3, 4, 7, 8, 15, 16, 17, 31, 63, 64, 100, 257, 1000} {
			l := unlike(size, f.hash)
			n := layout.Of(l)
			trees := treesOf(n, map[uint64]*tree.Tree{})
			for i := 0; i <= size; i += 1 + size/16 {
				h, k := f.hash(i), "key"
				if i < size {
					h, k = l[i].Hash, string(l[i].Pair.Key)
				}
				for _, e := range []layout.Entry{entry(h, k, ""), entry(h, "key "+k, ""), entry(h, "", ""), entry(h^1, "l", ""), entry(h^1<<63, "a", "")} {
					var m meter.Meter
					x, had := Delete(n, e.Hash, e.Pair.Key, &m)
					if had != hasKey(l, string(e.Pair.Key)) || !had && x != n {
						t.Fatalf("%s: %d pairs: %q: %v", f.what, size, e.Pair.Key, had)
					}
					if w := passed(l, e.Hash, string(e.Pair.Key), trees); m != w || m.Visits > bound(size) || m.Visits > meter.Bound(size) || m.Compares > m.Visits || !m.Within(size) {
						t.Fatalf("%s: %d pairs: %v is not %v, or above %d", f.what, size, m, w, bound(size))
					}
				}
			}
		}
	}
}

// P20.3: thousands of keys under one hash, below as many branches as there may be, deleted one by one: each step is within the bound for the pairs that are there, and some are so long that a bound for a lesser number would be too near.
func TestGreatBucketBelowAllBranches(t *testing.T) {
	const size = 20000
	for _, those := range orders(unlike(size-1, func(int) uint64 { return 1 << 63 })) {
		l := append(those, named(0, "beside them till the end"))
		n := layout.Of(l)
		most := 0
		for i, e := range l {
			var m meter.Meter
			x, had := Delete(n, e.Hash, e.Pair.Key, &m)
			left := size - i
			if !had || x != nil && x.Count() != left-1 || x == nil && left > 1 || !m.Within(left) || left <= 1000 && m.Visits > bound(left) {
				t.Fatalf("%d keys: %v, %v, not within %d", left, had, m, meter.Bound(left))
			}
			if i%1000 == 0 || left < 10 {
				isLayout(t, "a great bucket", x, l[i+1:])
			}
			most = max(most, m.Visits)
			n = x
		}
		if most < api.Levels+10 || n != nil {
			t.Fatalf("%d visits at most: no such way is as long as it has to be; or something is left", most)
		}
	}
}

// chanceHashes are hashes that fall together often, part at all levels, or are any.
func chanceHashes(r *rand.Rand) []uint64 {
	few := []uint64{r.Uint64(), r.Uint64(), 0, math.MaxUint64}
	var l []uint64
	for range 1 + r.Intn(30) {
		h := few[r.Intn(len(few))]
		switch r.Intn(5) {
		case 0:
			h = r.Uint64()
		case 1:
			h ^= 1 << r.Intn(64)
		case 2:
			h ^= uint64(r.Intn(16)) << 60
		case 3:
			h ^= uint64(r.Intn(64))
		}
		l = append(l, h)
	}
	return l
}

// P20.1, P20.2: pairs of every sort at random, put and deleted, keys again and again among them, each under its one hash: each step, from any earlier version on, leads to the layout, and all versions stay.
func TestAtRandom(t *testing.T) {
	r := rand.New(rand.NewSource(2020))
	type version struct {
		n node.Node
		l []layout.Entry
	}
	for range 250 {
		hashes := chanceHashes(r)
		keys := 1 + r.Intn(40)
		all := []version{{}}
		for step := range 60 {
			from := all[len(all)-1]
			if r.Intn(6) == 0 {
				from = all[r.Intn(len(all))]
			}
			k := r.Intn(keys)
			e := entry(hashes[k%len(hashes)], "k"+strconv.Itoa(k), strconv.Itoa(step))
			left := without(from.l, "k"+strconv.Itoa(k))
			if r.Intn(5) < 2+step/20 {
				all = append(all, version{n: shrunk(t, "at random", from.n, from.l, e.Hash, string(e.Pair.Key)), l: left})
				continue
			}
			n, _ := graft.Put(from.n, e.Hash, e.Pair, nil)
			all = append(all, version{n: n, l: append(left, e)})
		}
		for _, v := range all {
			isLayout(t, "a version at random", v.n, v.l)
		}
	}
}

// P20.1: what is put and deleted again leaves the layout that was there ahead of it, and the other way round, whatever the hashes are.
func TestBackAndForth(t *testing.T) {
	for _, f := range families() {
		l := unlike(40, f.hash)
		n := layout.Of(l[:39])
		more, _ := graft.Put(n, l[39].Hash, l[39].Pair, nil)
		if x, had := Delete(more, l[39].Hash, l[39].Pair.Key, nil); !had || !layout.Same(x, n) {
			t.Error(f.what, "put and deleted", had)
		}
		for _, e := range l[:39] {
			less := shrunk(t, f.what, n, l[:39], e.Hash, string(e.Pair.Key))
			if x, fresh := graft.Put(less, e.Hash, e.Pair, nil); !fresh || !layout.Same(x, n) {
				t.Error(f.what, "deleted and put", fresh)
			}
			shrunk(t, f.what+": deleted twice", less, without(l[:39], string(e.Pair.Key)), e.Hash, string(e.Pair.Key))
		}
	}
}

// roomy is bytes with others behind their length.
func roomy(b []byte) []byte {
	return append(slices.Clone(b), "behind the length"...)[:len(b)]
}

// spoil writes over bytes, and over all that lies behind their length.
func spoil(b []byte) {
	b = b[:cap(b)]
	for i := range b {
		b[i] ^= 0x55
	}
}

// P20.2 and rule 2: what was handed in may be written over behind; rule 7: what lies behind its length is neither read nor written.
func TestMemory(t *testing.T) {
	l := []layout.Entry{named(1, "a"), named(1, "b"), named(1, "c"), named(33, "d"), named(33^1<<63, "e"), named(7, ""), named(1, "bb"), named(9, "behind the length")}
	versions := []node.Node{layout.Of(l)}
	for i, e := range l {
		key := roomy(e.Pair.Key)
		was := slices.Clone(key[:cap(key)])
		n, had := Delete(versions[i], e.Hash, key, nil)
		if !had || !bytes.Equal(key[:cap(key)], was) {
			t.Fatal("not deleted, or what was handed in was written into", e)
		}
		none := roomy([]byte("none"))
		if x, had := Delete(n, e.Hash, none, nil); x != n || had {
			t.Fatal("what isn't there was deleted", e)
		}
		spoil(key)
		spoil(none)
		isLayout(t, "written over behind", n, l[i+1:])
		versions = append(versions, n)
	}
	for i, v := range versions {
		isLayout(t, "a version", v, l[i:])
		for _, p := range node.Pairs(v) {
			spoil(p.Key)
			spoil(p.Value)
		}
		isLayout(t, "a version whose pairs were written over", v, l[i:])
	}
}

// P20.2: the nodes, trees and lists of which a node was made are as they were, behind whatever is deleted.
func TestMemoryOfWhatWasMade(t *testing.T) {
	x := tree.From([]api.Pair{pairOf("b", "2"), pairOf("d", "4")})
	kids := []node.Node{node.Leaf(3, pairOf("a", "1")), node.Bucket(4, x), node.Leaf(5, pairOf("e", "5"))}
	given := slices.Clone(kids)
	n := node.Branch(bits.Of(3, 4, 5), given...)
	l := []layout.Entry{entry(3, "a", "1"), entry(4, "b", "2"), entry(4, "d", "4"), entry(5, "e", "5")}
	for _, e := range append(slices.Clone(l), entry(3, "c", ""), entry(4, "c", ""), entry(6, "c", ""), entry(3+32, "c", ""), entry(4+32, "c", "")) {
		cuts(t, "a branch", n, l, e.Hash, string(e.Pair.Key))
		isLayout(t, "the first leaf", kids[0], l[:1])
		isLayout(t, "the bucket", kids[1], l[1:3])
		isLayout(t, "the second leaf", kids[2], l[3:])
		if list := x.List(); len(list) != 2 || !samePair(list[0], l[1].Pair) || !samePair(list[1], l[2].Pair) {
			t.Fatal("the tree was changed", list)
		}
		if !slices.Equal(kids, given) {
			t.Fatal("the list was changed")
		}
	}
}

// P20.1: the meter alone is written into, and it counts on from call to call; nothing else of one call is left for the next.
func TestCallsDontTouchEachOther(t *testing.T) {
	l := unlike(40, func(i int) uint64 { return uint64(i%5) << 59 })
	first, second := layout.Of(l), layout.Of(l)
	var m, all meter.Meter
	for i, e := range l[:30] {
		w := passed(l[i:], e.Hash, string(e.Pair.Key), treesOf(first, map[uint64]*tree.Tree{}))
		all.Visits += w.Visits
		all.Compares += w.Compares
		first, _ = Delete(first, e.Hash, e.Pair.Key, &m)
		o := l[len(l)-1-i]
		second, _ = Delete(second, o.Hash, o.Pair.Key, nil)
		if m != all {
			t.Fatalf("%d: %v, not %v", i, m, all)
		}
	}
	isLayout(t, "one of two", first, l[30:])
	isLayout(t, "two of two", second, l[:10])
}

// stranger has a node's methods, but isn't one; it can't be compared either.
type stranger struct{ l []int }

func (s stranger) Kind() int { panic("a stranger was asked") }

func (s stranger) Count() int { panic("a stranger was asked") }

// Rule 6, and layer 16: what is no node has no pairs: none has the key, so it is told itself.
func TestStrangers(t *testing.T) {
	var m meter.Meter
	room := []int{1}
	x, had := Delete(stranger{l: room}, 5, []byte("k"), &m)
	if s, ok := x.(stranger); !ok || &s.l[0] != &room[0] || had || m != (meter.Meter{}) {
		t.Error(x, had, m)
	}
	var none *stranger
	if x, had := Delete(none, 5, []byte("k"), &m); x != node.Node(none) || had || m != (meter.Meter{}) {
		t.Error(had, m)
	}
}

// P1: no call panics, and each ends, of nodes that aren't right, of others' layouts and of a key under another hash, too: of those the chapter promises nothing else.
func TestWrongNodes(t *testing.T) {
	deep := node.Leaf(0, pairOf("k", "v"))
	for range 1 << 16 {
		deep = node.Branch(bits.Of(0), deep)
	}
	wide := node.Branch(bits.Of(0, 1), deep, deep)
	unsorted := tree.From([]api.Pair{pairOf("b", "1"), pairOf("a", "2"), pairOf("b", "3")})
	several := node.Bucket(1<<63, tree.From([]api.Pair{pairOf("a", "1"), pairOf("b", "2")}))
	for range 20 {
		several = node.Branch(bits.Of(0, 8, 15, 31), several, several, node.Leaf(5, pairOf("k", "v")), several)
	}
	for _, n := range []node.Node{
		deep,
		wide,
		several,
		node.Branch(bits.Of(3), node.Leaf(9, pairOf("k", "v"))),
		node.Branch(bits.Of(3), node.Leaf(3, pairOf("k", "v"))),
		node.Branch(bits.Of(3, 4), node.Leaf(4, pairOf("k", "v")), node.Leaf(3, pairOf("k", "v"))),
		node.Branch(bits.Of(3), node.Branch(bits.Of(0), node.Leaf(1, pairOf("k", "v")))),
		node.Bucket(5, unsorted),
		layout.Of(under(7, "k", "b")),
	} {
		for _, h := range append(edgeHashes()[:8], 3, 5, 9, 7) {
			Delete(n, h, []byte("k"), nil)
			Delete(n, h, []byte("b"), &meter.Meter{})
			Delete(n, h, nil, nil)
		}
	}
}
