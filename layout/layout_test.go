package layout

import (
	"bytes"
	"math"
	"math/rand"
	"slices"
	"strconv"
	"testing"

	"brushwood/api"
	"brushwood/bits"
	"brushwood/node"
	"brushwood/tree"
)

func pairOf(key, value string) api.Pair {
	return api.Pair{Key: []byte(key), Value: []byte(value)}
}

func entry(h uint64, key, value string) Entry { return Entry{Hash: h, Pair: pairOf(key, value)} }

// named is an entry of a hash and a key, with a value that tells of both.
func named(h uint64, key string) Entry { return entry(h, key, key+strconv.FormatUint(h, 16)) }

func samePair(a, b api.Pair) bool {
	return string(a.Key) == string(b.Key) && string(a.Value) == string(b.Value)
}

func samePairs(a, b []api.Pair) bool { return slices.EqualFunc(a, b, samePair) }

func sameEntry(a, b Entry) bool { return a.Hash == b.Hash && samePair(a.Pair, b.Pair) }

func sameEntries(a, b []Entry) bool { return slices.EqualFunc(a, b, sameEntry) }

// comeTo is the chapter's sentence: the entries whose keys stand in no entry behind them.
func comeTo(l []Entry) []Entry {
	var come []Entry
	for i, e := range l {
		behind := false
		for _, f := range l[i+1:] {
			behind = behind || string(f.Pair.Key) == string(e.Pair.Key)
		}
		if !behind {
			come = append(come, e)
		}
	}
	return come
}

// sketch is what the chapter says that a node is; nil: nothing.
type sketch struct {
	kind    int
	hash    uint64
	pairs   []api.Pair
	numbers []int
	kids    []*sketch
}

// chunkAt is layer 6's sentence: the number of five bits, at the level 12 of four.
func chunkAt(h uint64, level int) int {
	c := 0
	for i := 4; i >= 0; i-- {
		c *= 2
		if 5*level+i < 64 && h&(1<<(5*level+i)) != 0 {
			c++
		}
	}
	return c
}

// sorted is the pairs of entries by rising keys: each one goes behind all whose keys are less.
func sorted(l []Entry) []api.Pair {
	var pairs []api.Pair
	for _, e := range l {
		i := len(pairs)
		for i > 0 && string(pairs[i-1].Key) > string(e.Pair.Key) {
			i--
		}
		pairs = slices.Insert(pairs, i, e.Pair)
	}
	return pairs
}

// laidOut is the chapter's sentence: the layout of entries of unlike keys at a level, part by part.
func laidOut(l []Entry, level int) *sketch {
	if len(l) == 0 {
		return nil
	}
	if len(l) == 1 {
		return &sketch{kind: 1, hash: l[0].Hash, pairs: []api.Pair{l[0].Pair}}
	}
	if !slices.ContainsFunc(l, func(e Entry) bool { return e.Hash != l[0].Hash }) {
		return &sketch{kind: 2, hash: l[0].Hash, pairs: sorted(l)}
	}
	s := &sketch{kind: 3}
	for c := 0; c <= 31; c++ {
		var those []Entry
		for _, e := range l {
			if chunkAt(e.Hash, level) == c {
				those = append(those, e)
			}
		}
		if len(those) > 0 {
			s.numbers = append(s.numbers, c)
			s.kids = append(s.kids, laidOut(those, level+1))
		}
	}
	return s
}

// sketchOf is the layout of entries.
func sketchOf(l []Entry) *sketch { return laidOut(comeTo(l), 0) }

// count is how many pairs are in it.
func (s *sketch) count() int {
	n := len(s.pairs)
	for _, k := range s.kids {
		n += k.count()
	}
	return n
}

// set is its numbers as bits.
func (s *sketch) set() bits.Map {
	var m bits.Map
	for _, c := range s.numbers {
		m |= 1 << c
	}
	return m
}

// shape is the chapter's sentence: its own spot first, then those of its children, in their order.
func (s *sketch) shape(level int) []Spot {
	if s == nil {
		return nil
	}
	l := []Spot{{Level: level, Kind: s.kind, Hash: s.hash, Map: s.set(), Count: s.count()}}
	for _, k := range s.kids {
		l = append(l, k.shape(level+1)...)
	}
	return l
}

// node is a sketch made by the calls of layer 16.
func (s *sketch) node() node.Node {
	switch {
	case s == nil:
		return nil
	case s.kind == 1:
		return node.Leaf(s.hash, s.pairs[0])
	case s.kind == 2:
		return node.Bucket(s.hash, tree.From(s.pairs))
	}
	var kids []node.Node
	for _, k := range s.kids {
		kids = append(kids, k.node())
	}
	return node.Branch(bits.Of(s.numbers...), kids...)
}

// same is the chapter's sentence of two sketches: one shape, and the same pairs in each leaf and each bucket.
func (s *sketch) same(o *sketch) bool {
	if s == nil || o == nil {
		return s == nil && o == nil
	}
	if !slices.Equal(s.shape(0), o.shape(0)) || !samePairs(s.pairs, o.pairs) {
		return false
	}
	for i, k := range s.kids {
		if !k.same(o.kids[i]) {
			return false
		}
	}
	return true
}

// isSketch fails, if a node isn't in each part what its sketch says.
func isSketch(t *testing.T, what string, n node.Node, s *sketch) {
	t.Helper()
	if s == nil || n == nil {
		if s != nil || n != nil {
			t.Fatalf("%s: %v, not %v", what, n, s)
		}
		return
	}
	if n.Kind() != s.kind || n.Count() != s.count() {
		t.Fatalf("%s: the kind %d, the count %d, not %d and %d", what, n.Kind(), n.Count(), s.kind, s.count())
	}
	if h, _ := node.Hash(n); h != s.hash {
		t.Fatalf("%s: the hash %x, not %x", what, h, s.hash)
	}
	if p, ok := node.Pair(n); ok && !samePair(p, s.pairs[0]) {
		t.Fatalf("%s: the pair %v, not %v", what, p, s.pairs[0])
	}
	if x, ok := node.Tree(n); ok && (!x.Sound() || !samePairs(x.List(), s.pairs)) {
		t.Fatalf("%s: the tree of %v, sound: %v, not of %v", what, x.List(), x.Sound(), s.pairs)
	}
	if m, _ := node.Map(n); m != s.set() {
		t.Fatalf("%s: the set %b, not %b", what, m, s.set())
	}
	for i, c := range s.numbers {
		kid, _ := node.Kid(n, c)
		isSketch(t, what+", "+strconv.Itoa(c), kid, s.kids[i])
	}
}

// tells fails, if a call doesn't tell of entries what the chapter says.
func tells(t *testing.T, what string, l []Entry) {
	t.Helper()
	if got, want := Come(l), comeTo(l); !sameEntries(got, want) {
		t.Fatalf("%s: Come: %v, not %v", what, got, want)
	}
	n, s := Of(l), sketchOf(l)
	isSketch(t, what, n, s)
	if got := Shape(n); !slices.Equal(got, s.shape(0)) {
		t.Fatalf("%s: Shape: %v, not %v", what, got, s.shape(0))
	}
	if node.Right(n, 0) != (len(l) > 0) {
		t.Fatalf("%s: right at the level 0: %v", what, node.Right(n, 0))
	}
	if other := s.node(); !Same(n, other) || !Same(other, n) || !Same(n, n) {
		t.Fatal(what, "isn't the same as what is made by hand")
	}
}

// edgeHashes are the least and the greatest, and each with one bit alone, or one bit lacking.
func edgeHashes() []uint64 {
	l := []uint64{0, math.MaxUint64, 0x0123456789abcdef, 0xfedcba9876543210}
	for i := range 64 {
		l = append(l, 1<<i, ^uint64(1<<i))
	}
	return l
}

// oddPairs have empty, short, long and strange keys and values.
func oddPairs() []api.Pair {
	long := string(bytes.Repeat([]byte{0xff}, api.MaxKey))
	return []api.Pair{
		{}, {Key: []byte{}, Value: []byte{}}, {Key: []byte("k")}, {Value: []byte("v")}, pairOf("", "v"), pairOf("k", ""),
		pairOf("\x00", "\x00\x00"), pairOf("\xff\xfe", "\x80"), pairOf(long, long), pairOf(long+"k", long+"v"),
	}
}

// P17.1, P17.2: the chapter's example.
func TestExample(t *testing.T) {
	n := Of([]Entry{named(1, "a"), named(33, "b")})
	want := []Spot{
		{Level: 0, Kind: api.Branch, Map: 1 << 1, Count: 2},
		{Level: 1, Kind: api.Branch, Map: 1<<0 | 1<<1, Count: 2},
		{Level: 2, Kind: api.Leaf, Hash: 1, Count: 1},
		{Level: 2, Kind: api.Leaf, Hash: 33, Count: 1},
	}
	if got := Shape(n); !slices.Equal(got, want) {
		t.Error(got)
	}
	if !Same(n, Of([]Entry{named(33, "b"), named(1, "a")})) || !node.Right(n, 0) {
		t.Error("the other order has another layout, or it isn't right")
	}
}

// P17.1: of nothing there is nothing.
func TestNothing(t *testing.T) {
	for _, l := range [][]Entry{nil, {}, make([]Entry, 0, 3), []Entry{named(1, "a")}[:0]} {
		if Of(l) != nil || len(Come(l)) != 0 || !Same(Of(l), nil) || !Same(nil, Of(l)) {
			t.Error("something comes of no entries")
		}
	}
	if len(Shape(nil)) != 0 || !Same(nil, nil) {
		t.Error("nil has a shape, or isn't the same as nil")
	}
}

// P17.1: one entry comes to itself, and its layout is a leaf, whatever its hash and its pair are.
func TestOne(t *testing.T) {
	for _, p := range oddPairs() {
		for _, h := range []uint64{0, 1, 31, 32, 1 << 63, math.MaxUint64 - 1, math.MaxUint64} {
			tells(t, "one", []Entry{{Hash: h, Pair: p}})
		}
	}
	for _, h := range edgeHashes() {
		l := []Entry{named(h, "k")}
		tells(t, "one", l)
		if got := Shape(Of(l)); !slices.Equal(got, []Spot{{Kind: 1, Hash: h, Count: 1}}) {
			t.Error(got)
		}
	}
}

// P17.1: Come, written out by hand: keys twice and more often, at the front, in the midst and at the end, with like and unlike hashes and values, and empty keys and values.
func TestComeByHand(t *testing.T) {
	a, b, c := entry(1, "a", "1"), entry(2, "b", "2"), entry(3, "c", "3")
	aValue, aHash, aBoth := entry(1, "a", "9"), entry(9, "a", "1"), entry(9, "a", "9")
	none, noBytes, noValue, noKey := Entry{}, Entry{Pair: api.Pair{Key: []byte{}, Value: []byte{}}}, entry(5, "a", ""), entry(6, "", "v")
	for _, x := range []struct{ given, want []Entry }{
		{[]Entry{a}, []Entry{a}},
		{[]Entry{c, a, b}, []Entry{c, a, b}},
		{[]Entry{b, a, c}, []Entry{b, a, c}},
		{[]Entry{a, a}, []Entry{a}},
		{[]Entry{a, a, a, a}, []Entry{a}},
		{[]Entry{a, aValue}, []Entry{aValue}},
		{[]Entry{aValue, a}, []Entry{a}},
		{[]Entry{a, aHash}, []Entry{aHash}},
		{[]Entry{aHash, a}, []Entry{a}},
		{[]Entry{a, aBoth}, []Entry{aBoth}},
		{[]Entry{a, aHash, aValue, aBoth}, []Entry{aBoth}},
		{[]Entry{a, aBoth, b, c}, []Entry{aBoth, b, c}},
		{[]Entry{a, b, aBoth, c}, []Entry{b, aBoth, c}},
		{[]Entry{a, b, c, aBoth}, []Entry{b, c, aBoth}},
		{[]Entry{c, a, aBoth, b}, []Entry{c, aBoth, b}},
		{[]Entry{c, b, a, aBoth}, []Entry{c, b, aBoth}},
		{[]Entry{a, c, a, b, a}, []Entry{c, b, a}},
		{[]Entry{a, b, c, a, b, c}, []Entry{a, b, c}},
		{[]Entry{a, b, c, c, b, a}, []Entry{c, b, a}},
		{[]Entry{b, c, a, c}, []Entry{b, a, c}},
		{[]Entry{a, noValue}, []Entry{noValue}},
		{[]Entry{noValue, a}, []Entry{a}},
		{[]Entry{none, a}, []Entry{none, a}},
		{[]Entry{none, noKey}, []Entry{noKey}},
		{[]Entry{noKey, noBytes}, []Entry{none}},
		{[]Entry{noBytes, a, none}, []Entry{a, none}},
		{[]Entry{none, a, noKey}, []Entry{a, noKey}},
		{[]Entry{entry(1, "a", "x"), entry(1, "aa", "x"), entry(1, "a\x00", "x"), entry(1, "A", "x")}, []Entry{entry(1, "a", "x"), entry(1, "aa", "x"), entry(1, "a\x00", "x"), entry(1, "A", "x")}},
		{[]Entry{entry(1, "\xff", "1"), entry(1, "\xfe", "2"), entry(2, "\xff", "3")}, []Entry{entry(1, "\xfe", "2"), entry(2, "\xff", "3")}},
	} {
		if got := Come(x.given); !sameEntries(got, x.want) {
			t.Errorf("Come of %v: %v, not %v", x.given, got, x.want)
		}
		tells(t, "by hand", x.given)
	}
}

// each hands in all lists of up to so many of the entries, each of them again and again.
func each(l []Entry, most int, do func(l []Entry)) {
	var longer func(have []Entry)
	longer = func(have []Entry) {
		do(have)
		if len(have) == most {
			return
		}
		for _, e := range l {
			longer(append(slices.Clone(have), e))
		}
	}
	longer(nil)
}

// P17.1, P17.2: every list of up to four of some entries, which have keys, hashes and values in common.
func TestEveryShortList(t *testing.T) {
	some := []Entry{entry(1, "a", "1"), entry(33, "a", "1"), entry(1, "a", ""), entry(1, "b", "1"), entry(33, "", "1"), entry(1<<63|1, "", ""), entry(1, "c", "2")}
	each(some, 4, func(l []Entry) { tells(t, "a short list", l) })
}

// P17.1: of several that all have one hash a bucket, at the top or below branches.
func TestOneHash(t *testing.T) {
	for _, h := range edgeHashes() {
		two := []Entry{named(h, "b"), named(h, "a")}
		tells(t, "two of one hash", two)
		if got := Shape(Of(two)); !slices.Equal(got, []Spot{{Kind: 2, Hash: h, Count: 2}}) {
			t.Error(got)
		}
		tells(t, "three of one hash", append(two, named(h, "")))
		tells(t, "two of one hash, and one of another", append(two, named(h^1<<63, "c")))
		tells(t, "two and two", append(two, named(h^1<<63, "c"), named(h^1<<63, "d")))
		// What has the other hash comes to nothing: so no branch is left.
		tells(t, "two of one hash at last", append(two, named(h+1, "c"), named(h, "c")))
		tells(t, "one of one hash at last", append(two, named(h+1, "a")))
	}
	for _, n := range []int{4, 5, 17, 100, 1000} {
		var l []Entry
		for i := range n {
			l = append(l, named(7, strconv.Itoa(i*7919%n)))
		}
		tells(t, "many of one hash", l)
	}
}

// P17.1: two hashes that part at each level, and at each bit: a branch at each level down to there, each with one child but the last.
func TestPartAtEachLevel(t *testing.T) {
	for i := range 64 {
		for _, h := range []uint64{0, math.MaxUint64, 7, 0x0123456789abcdef} {
			l := []Entry{named(h, "a"), named(h^1<<i, "b")}
			tells(t, "two that part at bit "+strconv.Itoa(i), l)
			shape := Shape(Of(l))
			if len(shape) != i/5+3 || shape[i/5].Kind != 3 || shape[i/5].Level != i/5 || shape[i/5+1].Kind != 1 || shape[i/5+2].Level != i/5+1 {
				t.Error(i, shape)
			}
			tells(t, "with a third one", append(l, named(h^1, "c")))
			tells(t, "with a bucket", append(l, named(h, "c"), named(h, "d")))
		}
	}
}

// P17.1: a branch of every chunk at each level, and one of every two.
func TestEveryChunk(t *testing.T) {
	for level := range api.Levels {
		var l []Entry
		for c := range uint64(32) {
			h := c << (5 * level)
			if chunkAt(h, level) == int(c) {
				l = append(l, named(h, strconv.Itoa(int(c))))
			}
		}
		if level < 12 && len(l) != 32 || level == 12 && len(l) != 16 {
			t.Fatal("the hashes of this test", level, len(l))
		}
		tells(t, "every chunk", l)
		if s := Shape(Of(l))[level]; s.Map.Count() != len(l) || s.Count != len(l) {
			t.Error(level, s)
		}
		for i := range l {
			tells(t, "two chunks", []Entry{l[i], l[0], l[len(l)-1]})
		}
	}
}

// P17.1: the least and the greatest hash, and all edges together.
func TestEdgeHashes(t *testing.T) {
	tells(t, "the least and the greatest", []Entry{named(math.MaxUint64, "a"), named(0, "b")})
	var l []Entry
	for i, h := range edgeHashes() {
		l = append(l, named(h, "k"+strconv.Itoa(i)))
		tells(t, "edges", l)
	}
	for i, p := range oddPairs() {
		l = append(l, Entry{Hash: uint64(i), Pair: p})
	}
	tells(t, "edges, and odd pairs", l)
}

// P17.1: a key that stands again with another hash is laid under the last one alone.
func TestKeyWithAnotherHash(t *testing.T) {
	first := []Entry{named(1, "a"), named(33, "b"), named(1, "c")}
	tells(t, "a goes to a hash of its own", append(first, entry(2, "a", "x")))
	tells(t, "a goes to that of b", append(first, entry(33, "a", "x")))
	tells(t, "b goes to that of a", append(first, entry(1, "b", "x")))
	n := Of(append(first, entry(1, "b", "x")))
	if got := Shape(n); !slices.Equal(got, []Spot{{Kind: 2, Hash: 1, Count: 3}}) {
		t.Error(got)
	}
	n = Of([]Entry{named(1, "a"), named(1<<63, "a"), named(77, "a")})
	if got := Shape(n); !slices.Equal(got, []Spot{{Kind: 1, Hash: 77, Count: 1}}) {
		t.Error(got)
	}
}

// P17.1: the shape of nodes of each kind, by hand; nothing asks whether they are right.
func TestShapeByHand(t *testing.T) {
	leaf := node.Leaf(5, pairOf("a", "1"))
	bucket := node.Bucket(6, tree.From([]api.Pair{pairOf("b", "2"), pairOf("c", "3"), pairOf("d", "4")}))
	low := node.Branch(bits.Of(0, 31), bucket, leaf)
	high := node.Branch(bits.Of(2, 3, 9), leaf, low, node.Branch(bits.Of(4), low))
	for i, x := range []struct {
		n    node.Node
		want []Spot
	}{
		{leaf, []Spot{{0, 1, 5, 0, 1}}},
		{bucket, []Spot{{0, 2, 6, 0, 3}}},
		{low, []Spot{{0, 3, 0, 1<<31 | 1, 4}, {1, 2, 6, 0, 3}, {1, 1, 5, 0, 1}}},
		{node.Branch(bits.Of(7), leaf), []Spot{{0, 3, 0, 1 << 7, 1}, {1, 1, 5, 0, 1}}},
		{high, []Spot{
			{0, 3, 0, 1<<2 | 1<<3 | 1<<9, 9},
			{1, 1, 5, 0, 1},
			{1, 3, 0, 1<<31 | 1, 4}, {2, 2, 6, 0, 3}, {2, 1, 5, 0, 1},
			{1, 3, 0, 1 << 4, 4}, {2, 3, 0, 1<<31 | 1, 4}, {3, 2, 6, 0, 3}, {3, 1, 5, 0, 1},
		}},
	} {
		if got := Shape(x.n); !slices.Equal(got, x.want) {
			t.Errorf("%d: %v, not %v", i, got, x.want)
		}
	}
}

// P17.1: what is gone through from above ends where it is left off.
func TestLeftOff(t *testing.T) {
	n := Of([]Entry{named(1, "a"), named(33, "b"), named(2, "c"), named(2, "d")})
	all := Shape(n)
	for most := 1; most <= len(all); most++ {
		var l []Spot
		for s := range fromAbove(n) {
			l = append(l, s)
			if len(l) == most {
				break
			}
		}
		if !slices.Equal(l, all[:most]) {
			t.Error(most, l)
		}
	}
}

// unlike are nodes of which no two are the same: of each kind, with each part another.
func unlike() map[string]*sketch {
	leafOf := func(h uint64, k, v string) *sketch { return &sketch{kind: 1, hash: h, pairs: []api.Pair{pairOf(k, v)}} }
	bucketOf := func(h uint64, l ...api.Pair) *sketch { return &sketch{kind: 2, hash: h, pairs: l} }
	over := func(numbers []int, kids ...*sketch) *sketch { return &sketch{kind: 3, numbers: numbers, kids: kids} }
	a, b := leafOf(1, "a", "1"), leafOf(2, "b", "2")
	ab := bucketOf(1, pairOf("a", "1"), pairOf("b", "2"))
	return map[string]*sketch{
		"nothing": nil,
		"leaf":    a, "its hash": leafOf(2, "a", "1"), "its key": leafOf(1, "b", "1"), "its value": leafOf(1, "a", "2"),
		"no value": leafOf(1, "a", ""), "no key": leafOf(1, "", "1"), "no bytes": leafOf(1, "", ""), "hash 0": leafOf(0, "a", "1"),
		"bucket": ab, "its other hash": bucketOf(2, pairOf("a", "1"), pairOf("b", "2")),
		"its last value": bucketOf(1, pairOf("a", "1"), pairOf("b", "3")), "its first value": bucketOf(1, pairOf("a", "2"), pairOf("b", "2")),
		"its last key": bucketOf(1, pairOf("a", "1"), pairOf("c", "2")), "its first key": bucketOf(1, pairOf("", "1"), pairOf("b", "2")),
		"turned values": bucketOf(1, pairOf("a", "2"), pairOf("b", "1")), "one more": bucketOf(1, pairOf("a", "1"), pairOf("b", "2"), pairOf("c", "3")),
		"branch": over([]int{1, 2}, a, b), "its set": over([]int{1, 3}, a, b), "its order": over([]int{1, 2}, b, a),
		"one child": over([]int{1}, a), "the other child": over([]int{1}, b), "in another place": over([]int{2}, a),
		"three children": over([]int{1, 2, 3}, a, b, a), "a bucket below": over([]int{1}, ab), "a bucket and a leaf": over([]int{1, 2}, ab, b), "a leaf and a bucket": over([]int{1, 2}, b, ab),
		"two below": over([]int{1}, over([]int{1, 2}, a, b)), "other two below": over([]int{1}, over([]int{1, 3}, a, b)), "three below": over([]int{1}, over([]int{1}, over([]int{1, 2}, a, b))),
		"last value below": over([]int{1, 2}, a, over([]int{0, 1}, a, leafOf(2, "b", "3"))), "last value below is other": over([]int{1, 2}, a, over([]int{0, 1}, a, leafOf(2, "b", "4"))),
		"first value below": over([]int{1, 2}, over([]int{0, 1}, leafOf(2, "b", "3"), a), a), "first value below is other": over([]int{1, 2}, over([]int{0, 1}, leafOf(2, "b", "4"), a), a),
		"bucket value below": over([]int{0, 1}, a, bucketOf(1, pairOf("a", "1"), pairOf("b", ""))), "bucket key below": over([]int{0, 1}, a, bucketOf(1, pairOf("a", "1"), pairOf("", "b"))),
	}
}

// P17.1: Same of each kind of node with each other: of nothing, of leaves, buckets and branches that differ in one part alone, of like shapes with other pairs, and of the same pairs in other shapes.
func TestSameByHand(t *testing.T) {
	all := unlike()
	for name, s := range all {
		for other, o := range all {
			if s.same(o) != (name == other) {
				t.Fatal("the sketches of this test", name, other)
			}
			if got := Same(s.node(), o.node()); got != (name == other) {
				t.Errorf("Same of %s and %s: %v", name, other, got)
			}
		}
		n := s.node()
		if !Same(n, n) {
			t.Error(name, "isn't the same as itself")
		}
	}
}

// shuffled is a list in another order.
func shuffled[T any](r *rand.Rand, l []T) []T {
	other := slices.Clone(l)
	r.Shuffle(len(other), func(i, j int) { other[i], other[j] = other[j], other[i] })
	return other
}

// P17.1: buckets whose trees were made in another order, and have another shape, are the same; with one value another they aren't.
func TestSameBuckets(t *testing.T) {
	r := rand.New(rand.NewSource(171))
	for size := 2; size < 40; size++ {
		var l []api.Pair
		for i := range size {
			l = append(l, pairOf(string(rune('A'+i)), strconv.Itoa(i)))
		}
		bucket := node.Bucket(9, tree.From(l))
		for range 10 {
			var x *tree.Tree
			for _, p := range shuffled(r, l) {
				x = x.Put(pairOf("~"+string(p.Key), ""), nil).Put(p, nil)
			}
			for _, p := range shuffled(r, l) {
				x, _ = x.Delete([]byte("~"+string(p.Key)), nil)
			}
			other := node.Bucket(9, x)
			if !Same(bucket, other) || !Same(node.Branch(bits.Of(9, 10), bucket, other), node.Branch(bits.Of(9, 10), other, bucket)) {
				t.Fatal(size, "another order made another bucket")
			}
			turned := node.Bucket(9, x.Put(pairOf(string(l[r.Intn(size)].Key), "other"), nil))
			if Same(bucket, turned) || Same(node.Branch(bits.Of(9, 10), bucket, other), node.Branch(bits.Of(9, 10), bucket, turned)) {
				t.Fatal(size, "another value made no other bucket")
			}
		}
	}
}

// P17.1: no bytes and nil are one, as keys and as values.
func TestNoBytesAndNil(t *testing.T) {
	a := []Entry{{Hash: 3}, {Hash: 4, Pair: api.Pair{Key: []byte("k")}}}
	b := []Entry{{Hash: 3, Pair: pairOf("", "")}, entry(4, "k", "")}
	if !sameEntries(Come(a), Come(b)) || !Same(Of(a), Of(b)) {
		t.Error("no bytes and nil are told apart")
	}
	if got := Come([]Entry{a[0], b[0], a[0]}); len(got) != 1 {
		t.Error("no bytes and nil are two keys", got)
	}
	if got := Come([]Entry{b[0], a[0], b[0]}); len(got) != 1 {
		t.Error("no bytes and nil are two keys", got)
	}
}

// permuted hands in all orders of a list.
func permuted(l []Entry, do func(l []Entry)) {
	if len(l) == 0 {
		do(nil)
		return
	}
	for i, e := range l {
		permuted(slices.Delete(slices.Clone(l), i, i+1), func(rest []Entry) {
			do(append([]Entry{e}, rest...))
		})
	}
}

// P17.2: all orders of entries have one layout, right at the level 0.
func TestEveryOrder(t *testing.T) {
	for _, l := range [][]Entry{
		{named(1, "a"), named(1, "b"), named(1, "c"), named(1, "d")},
		{named(1, "a"), named(33, "b"), named(2, "c"), named(1, "d"), named(34, "")},
		{named(0, "a"), named(1<<63, "b"), named(1<<62, "c"), named(1<<63, "d"), named(math.MaxUint64, "e")},
	} {
		n, shape := Of(l), sketchOf(l).shape(0)
		permuted(l, func(other []Entry) {
			tells(t, "an order", other)
			x := Of(other)
			if !Same(n, x) || !slices.Equal(Shape(x), shape) || !node.Right(x, 0) {
				t.Fatalf("%v: another layout", other)
			}
		})
	}
}

// withNoise is a list with entries between that come to nothing: each has the key of one behind it.
func withNoise(r *rand.Rand, l []Entry, hashes []uint64) []Entry {
	noisy := slices.Clone(l)
	for range r.Intn(2*len(l) + 1) {
		i := r.Intn(len(noisy))
		key := string(noisy[i+r.Intn(len(noisy)-i)].Pair.Key)
		noisy = slices.Insert(noisy, i, entry(hashes[r.Intn(len(hashes))], key, "noise"+strconv.Itoa(i)))
	}
	return noisy
}

// chanceHashes is hashes that fall together in many ways: whole, in their first chunks, in their last ones, or not at all.
func chanceHashes(r *rand.Rand) []uint64 {
	few := []uint64{r.Uint64(), r.Uint64(), 0, math.MaxUint64}
	var l []uint64
	for range 1 + r.Intn(30) {
		h := few[r.Intn(len(few))]
		switch r.Intn(5) {
		case 0:
			h = r.Uint64()
		case 1:
			h ^= 1 << r.Intn(64)
		case 2:
			h ^= uint64(r.Intn(16)) << 60
		case 3:
			h ^= uint64(r.Intn(64))
		}
		l = append(l, h)
	}
	return l
}

// P17.1, P17.2: entries of every sort at random: each order of them, with entries that come to nothing between them, has one layout; with one entry more or less, or another value, it has another one.
func TestAtRandom(t *testing.T) {
	r := rand.New(rand.NewSource(17))
	for range 1500 {
		hashes := chanceHashes(r)
		var l []Entry
		for i := range 1 + r.Intn(60) {
			l = append(l, named(hashes[r.Intn(len(hashes))], strconv.Itoa(i*i%101)))
		}
		l = comeTo(l)
		n := Of(l)
		tells(t, "at random", l)
		other := withNoise(r, shuffled(r, l), hashes)
		tells(t, "with noise", other)
		x := Of(other)
		if !Same(n, x) || !slices.Equal(Shape(n), Shape(x)) || !samePairs(node.Pairs(n), node.Pairs(x)) {
			t.Fatalf("%v and %v: two layouts", l, other)
		}
		i := r.Intn(len(l))
		turned := append(slices.Clone(l), entry(l[i].Hash, string(l[i].Pair.Key), "turned"))
		if Same(n, Of(slices.Delete(slices.Clone(l), i, i+1))) || Same(n, Of(append(l, named(hashes[0], "one more")))) || Same(n, Of(turned)) {
			t.Fatalf("%v: other entries, but the same layout", l)
		}
	}
}

// P17.1: Same of layouts that differ in little: one bit of one hash, one key, one value.
func TestSameAtRandom(t *testing.T) {
	r := rand.New(rand.NewSource(1717))
	for range 3000 {
		hashes := chanceHashes(r)
		var l []Entry
		for i := range 1 + r.Intn(12) {
			l = append(l, named(hashes[r.Intn(len(hashes))], strconv.Itoa(i)))
		}
		m := slices.Clone(l)
		i := r.Intn(len(m))
		switch r.Intn(4) {
		case 0:
			m[i].Hash ^= 1 << r.Intn(64)
		case 1:
			m[i].Pair = pairOf(string(m[i].Pair.Key), "other")
		case 2:
			m[i].Pair = pairOf(string(m[i].Pair.Key)+"'", string(m[i].Pair.Value))
		}
		want := sketchOf(l).same(sketchOf(m))
		a, b := Of(l), Of(shuffled(r, m))
		if Same(a, b) != want || Same(b, a) != want {
			t.Fatalf("%v and %v: not %v", l, m, want)
		}
	}
}

// roomy is the same bytes, with room behind them.
func roomy(b []byte) []byte { return append(make([]byte, 0, len(b)+8), b...) }

// roomyEntries is entries in memory of their own, with room behind each list.
func roomyEntries(l []Entry) []Entry {
	own := make([]Entry, 0, len(l)+3)
	for _, e := range l {
		own = append(own, Entry{Hash: e.Hash, Pair: api.Pair{Key: roomy(e.Pair.Key), Value: roomy(e.Pair.Value)}})
	}
	return own
}

// spoil writes over all memory of entries, and over the room behind it.
func spoil(l []Entry) {
	for i, e := range l {
		for _, b := range [][]byte{e.Pair.Key, e.Pair.Value} {
			b = b[:cap(b)]
			for j := range b {
				b[j] ^= 0xa5
			}
		}
		l[i] = entry(4711, "spoiled", "spoiled")
	}
	behind := l[len(l):cap(l)]
	for i := range behind {
		behind[i] = entry(4712, "behind", "behind")
	}
}

// someEntries come to leaves, a bucket and branches.
func someEntries() []Entry {
	return []Entry{
		named(1, "a"), named(33, "b"), named(1, "c"), named(7, "d"), named(7, "e"), named(2, ""), entry(3, "f", ""), named(1<<60|7, "a"), named(9, "g"), named(9, "c"),
	}
}

// P17.1: no argument is written into, nor what lies behind it.
func TestArgumentsStay(t *testing.T) {
	l, want := roomyEntries(someEntries()), someEntries()
	behind := l[:cap(l)]
	for i := len(l); i < len(behind); i++ {
		behind[i] = named(8, "behind"+strconv.Itoa(i))
	}
	room := slices.Clone(behind)
	n := Of(l)
	come := Come(l)
	spoil(come)
	if !sameEntries(l, want) || !sameEntries(behind, room) {
		t.Error("an argument was written into", behind)
	}
	for i, e := range behind {
		if &e.Pair.Key[:1][0] != &room[i].Pair.Key[:1][0] {
			t.Error("an argument's key is other memory", i)
		}
	}
	isSketch(t, "beside room", n, sketchOf(want))
}

// P17.1: nothing hangs on what was handed in any more, when it is written over behind.
func TestNothingHandedInIsKept(t *testing.T) {
	l, want := roomyEntries(someEntries()), someEntries()
	n, come := Of(l), Come(l)
	spoil(l)
	isSketch(t, "after the writing", n, sketchOf(want))
	if !sameEntries(come, comeTo(want)) {
		t.Error("Come hangs on its argument", come)
	}
	if !slices.Equal(Shape(n), sketchOf(want).shape(0)) || !Same(n, Of(want)) {
		t.Error("Of hangs on its argument", Shape(n))
	}
}

// P17.1: what is answered is new memory each time, and no two lists of one answer share any.
func TestNothingToldIsKept(t *testing.T) {
	l := someEntries()
	n := Of(l)
	first := Come(l)
	for i := range first {
		// Whoever adds to one of the lists mustn't write into another.
		_ = append(first[i].Pair.Key, "more"...)
		_ = append(first[i].Pair.Value, "more"...)
	}
	if !sameEntries(first, comeTo(l)) {
		t.Error("lists of one answer share memory", first)
	}
	second := Come(l)
	spoil(first)
	if !sameEntries(second, comeTo(l)) || !sameEntries(Come(l), comeTo(l)) || !sameEntries(l, someEntries()) {
		t.Error("two answers share memory", second)
	}
	shape := Shape(n)
	clear(shape[:cap(shape)])
	for _, p := range node.Pairs(n) {
		clear(p.Key)
		clear(p.Value)
	}
	isSketch(t, "after the writing", n, sketchOf(l))
	if !slices.Equal(Shape(n), sketchOf(l).shape(0)) || !Same(n, sketchOf(l).node()) {
		t.Error("Shape hangs on what it told before")
	}
}

// P17.1: what lies behind a list's length is neither read nor written.
func TestBehindTheLength(t *testing.T) {
	l := someEntries()
	for size := range l {
		tells(t, "a part", l[:size])
		n := Of(slices.Clone(l[:size]))
		if !Same(Of(l[:size]), n) || !sameEntries(Come(l[:size]), comeTo(slices.Clone(l[:size]))) {
			t.Error(size)
		}
	}
	if !sameEntries(l, someEntries()) {
		t.Error("the list was written into")
	}
}

// stranger has a node's methods, but isn't one; it can't be compared either.
type stranger struct{ l []int }

func (s stranger) Kind() int { panic("a stranger was asked") }

func (s stranger) Count() int { panic("a stranger was asked") }

// Rule 6, and layer 16: what is no node has no pairs: it counts as nothing.
func TestStrangers(t *testing.T) {
	s := stranger{l: []int{1}}
	leaf := node.Leaf(1, pairOf("a", "1"))
	if len(Shape(s)) != 0 || !Same(s, nil) || !Same(nil, s) || !Same(s, s) || Same(s, leaf) || Same(leaf, s) {
		t.Error("a stranger is a node")
	}
	var none *stranger
	if len(Shape(none)) != 0 || !Same(none, nil) || Same(none, leaf) {
		t.Error("a pointer to no stranger is a node")
	}
}

// P17.1: branches below branches, deeper than a trie has levels.
func TestDeepNesting(t *testing.T) {
	const deep = 1 << 16
	over := func(n node.Node) node.Node {
		for range deep {
			n = node.Branch(bits.Of(31), n)
		}
		return n
	}
	a, b, c := over(node.Leaf(1, pairOf("a", "1"))), over(node.Leaf(1, pairOf("a", "1"))), over(node.Leaf(1, pairOf("a", "2")))
	shape := Shape(a)
	if len(shape) != deep+1 || shape[0] != (Spot{Kind: 3, Map: 1 << 31, Count: 1}) || shape[deep] != (Spot{Level: deep, Kind: 1, Hash: 1, Count: 1}) {
		t.Error("a deep shape", len(shape))
	}
	if !Same(a, b) || Same(a, c) {
		t.Error("deep nodes")
	}
}

// P17.1: a branch that is a child again and again is the same as itself at once, and its shape has it as often as it stands there.
func TestChildAgainAndAgain(t *testing.T) {
	double := func(n node.Node, times int) node.Node {
		for range times {
			n = node.Branch(bits.Of(3, 4), n, n)
		}
		return n
	}
	leaf := node.Leaf(1, pairOf("a", "1"))
	if got := Shape(double(leaf, 10)); len(got) != 1<<11-1 || got[0].Count != 1<<10 {
		t.Error(len(got))
	}
	n := double(leaf, 100)
	if !Same(n, n) || Same(n, double(n, 1)) || !Same(node.Branch(bits.Of(1, 2), n, leaf), node.Branch(bits.Of(1, 2), n, leaf)) {
		t.Error("a branch that stands again and again")
	}
}

// P17.1, P17.2: very many pairs, with hashes that are spread, that part late, or that fall together.
func TestManyPairs(t *testing.T) {
	r := rand.New(rand.NewSource(7))
	for _, mask := range []uint64{math.MaxUint64, 0xffff, 0xff << 56, 0} {
		var l []Entry
		for i := range 1 << 17 {
			l = append(l, Entry{Hash: r.Uint64() & mask, Pair: api.Pair{Key: []byte{byte(i), byte(i >> 8), byte(i >> 16)}}})
		}
		n := Of(l)
		if n.Count() != len(l) || !node.Right(n, 0) || !Same(n, Of(shuffled(r, l))) {
			t.Errorf("the mask %x", mask)
		}
	}
}
