package node

import (
	"bytes"
	"math"
	"math/rand"
	"slices"
	"strconv"
	"testing"

	"brushwood/api"
	"brushwood/bits"
	"brushwood/tree"
)

func pairOf(key, value string) api.Pair {
	return api.Pair{Key: []byte(key), Value: []byte(value)}
}

// one is the pair of a number: keys rise with it, and every fifth value is empty.
func one(i int) api.Pair {
	p := api.Pair{Key: []byte{byte(i >> 16), byte(i >> 8), byte(i)}}
	if i%5 != 0 {
		p.Value = []byte{'v', byte(i), byte(i >> 8)}
	}
	return p
}

// upTo is the pairs of the numbers from a on, ahead of b.
func upTo(a, b int) []api.Pair {
	var l []api.Pair
	for i := a; i < b; i++ {
		l = append(l, one(i))
	}
	return l
}

func samePair(a, b api.Pair) bool {
	return string(a.Key) == string(b.Key) && string(a.Value) == string(b.Value)
}

func samePairs(a, b []api.Pair) bool { return slices.EqualFunc(a, b, samePair) }

func isNothing(p api.Pair) bool { return p.Key == nil && p.Value == nil }

// sketch is what the chapter says that a node is; nil: none.
type sketch struct {
	kind    int
	hash    uint64
	pairs   []api.Pair
	numbers []int
	kids    []*sketch
}

func leafOf(h uint64, p api.Pair) *sketch {
	return &sketch{kind: 1, hash: h, pairs: []api.Pair{p}}
}

func bucketOf(h uint64, l ...api.Pair) *sketch {
	return &sketch{kind: 2, hash: h, pairs: l}
}

// branchOf is a branch of numbers, which rise, with a child for each.
func branchOf(numbers []int, kids ...*sketch) *sketch {
	return &sketch{kind: 3, numbers: numbers, kids: kids}
}

// node is a sketch made by the calls.
func (s *sketch) node() Node {
	switch s.kind {
	case 1:
		return Leaf(s.hash, s.pairs[0])
	case 2:
		return Bucket(s.hash, tree.From(s.pairs))
	}
	var kids []Node
	for _, k := range s.kids {
		kids = append(kids, k.node())
	}
	return Branch(bits.Of(s.numbers...), kids...)
}

// inside is its pairs, child by child.
func (s *sketch) inside() []api.Pair {
	l := slices.Clone(s.pairs)
	for _, k := range s.kids {
		l = append(l, k.inside()...)
	}
	return l
}

// sorted is its pairs in the order of their keys: each one goes behind all whose keys aren't more.
func (s *sketch) sorted() []api.Pair {
	var l []api.Pair
	for _, p := range s.inside() {
		i := len(l)
		for i > 0 && string(l[i-1].Key) > string(p.Key) {
			i--
		}
		l = slices.Insert(l, i, p)
	}
	return l
}

func (s *sketch) hashes() []uint64 {
	if s.kind != 3 {
		return []uint64{s.hash}
	}
	var l []uint64
	for _, k := range s.kids {
		l = append(l, k.hashes()...)
	}
	return l
}

// chunkAt is layer 6's sentence: the number of five bits, at the level 12 of four.
func chunkAt(h uint64, level int) int {
	c := 0
	for i := 4; i >= 0; i-- {
		c *= 2
		if 5*level+i < 64 && h&(1<<(5*level+i)) != 0 {
			c++
		}
	}
	return c
}

// right is the chapter's sentence, part by part.
func (s *sketch) right(level int) bool {
	if level < 0 || level > 13 {
		return false
	}
	if s.kind != 3 {
		return true
	}
	if level > 12 || len(s.kids) == 0 || len(s.kids) == 1 && s.kids[0].kind != 3 {
		return false
	}
	for i, k := range s.kids {
		if !k.right(level + 1) {
			return false
		}
		for _, h := range k.hashes() {
			if chunkAt(h, level) != s.numbers[i] {
				return false
			}
		}
	}
	return true
}

var (
	kinds   = []int{math.MinInt, -3, -2, -1, 0, 1, 2, 3, 4, 5, 12, 1<<32 + 1, 1<<32 + 2, 1<<32 + 3, math.MaxInt}
	levels  = []int{math.MinInt, -1 << 32, -13, -2, -1, 0, 1, 2, 3, 4, 5, 6, 7, 8, 9, 10, 11, 12, 13, 14, 15, 1 << 32, math.MaxInt - 1, math.MaxInt}
	numbers = []int{math.MinInt, math.MinInt + 3, -1 << 32, -64, -33, -32, -31, -29, -2, -1, 0, 1, 2, 3, 4, 5, 6, 7, 8, 9, 10, 11, 12, 13, 14, 15, 16, 17, 18, 19, 20, 21, 22, 23, 24, 25, 26, 27, 28, 29, 30, 31, 32, 33, 35, 63, 64, 1 << 32, 1<<32 + 3, math.MaxInt - 28, math.MaxInt}
)

// thrown is what a Must throws; nil: nothing.
func thrown(n Node, kind int) (what any) {
	defer func() { what = recover() }()
	if got := Must(n, kind); got != n {
		return "another node"
	}
	return nil
}

// isOfKind fails, if Must and Is don't tell of a node that it is of that kind, and of no other; of 0 there is no node.
func isOfKind(t *testing.T, what string, n Node, kind int) {
	t.Helper()
	for _, k := range kinds {
		if kind != 0 && k == kind {
			if x := thrown(n, k); x != nil || Is(n, k) != api.OK {
				t.Fatalf("%s: kind %d: thrown %v, Is %v", what, k, x, Is(n, k))
			}
		} else if x := thrown(n, k); x != any(api.ErrKind) || Is(n, k) != api.ErrKind {
			t.Fatalf("%s: not kind %d: thrown %v, Is %v", what, k, x, Is(n, k))
		}
	}
}

// isNone fails, if there is something to tell of what is no node.
func isNone(t *testing.T, what string, n Node) {
	t.Helper()
	if h, ok := Hash(n); h != 0 || ok {
		t.Fatal(what, "Hash", h, ok)
	}
	if p, ok := Pair(n); !isNothing(p) || ok {
		t.Fatal(what, "Pair", p, ok)
	}
	if x, ok := Tree(n); x != nil || ok {
		t.Fatal(what, "Tree", x, ok)
	}
	if m, ok := Map(n); m != 0 || ok {
		t.Fatal(what, "Map", m, ok)
	}
	for _, c := range numbers {
		if k, ok := Kid(n, c); k != nil || ok {
			t.Fatal(what, "Kid", c, k, ok)
		}
	}
	for _, level := range levels {
		if Right(n, level) {
			t.Fatal(what, "Right", level)
		}
	}
	if l := Pairs(n); len(l) != 0 {
		t.Fatal(what, "Pairs", l)
	}
	isOfKind(t, what, n, 0)
}

// tellsHash holds Hash against a sketch.
func tellsHash(t *testing.T, what string, n Node, s *sketch) {
	t.Helper()
	h, ok := Hash(n)
	if ok != (s.kind != 3) || ok && h != s.hash || !ok && h != 0 {
		t.Fatalf("%s: Hash: %x, %v", what, h, ok)
	}
}

// tellsPair holds Pair against a sketch.
func tellsPair(t *testing.T, what string, n Node, s *sketch) {
	t.Helper()
	p, ok := Pair(n)
	if ok != (s.kind == 1) || ok && !samePair(p, s.pairs[0]) || !ok && !isNothing(p) {
		t.Fatalf("%s: Pair: %v, %v", what, p, ok)
	}
}

// tellsTree holds Tree against a sketch.
func tellsTree(t *testing.T, what string, n Node, s *sketch) {
	t.Helper()
	x, ok := Tree(n)
	if ok != (s.kind == 2) || ok && (!x.Sound() || !samePairs(x.List(), s.pairs)) || !ok && x != nil {
		t.Fatalf("%s: Tree: %v, %v", what, x.List(), ok)
	}
}

// tellsKids holds Map and Kid against a sketch, of each child all that is told of it.
func tellsKids(t *testing.T, what string, n Node, s *sketch) {
	t.Helper()
	m, ok := Map(n)
	if ok != (s.kind == 3) || m != bits.Of(s.numbers...) {
		t.Fatalf("%s: Map: %b, %v", what, m, ok)
	}
	for _, c := range numbers {
		k, ok := Kid(n, c)
		i := slices.Index(s.numbers, c)
		if ok != (i >= 0) || ok != (k != nil) {
			t.Fatalf("%s: Kid %d: %v, %v", what, c, k, ok)
		}
		if ok {
			tells(t, what+", child "+strconv.Itoa(c), k, s.kids[i])
		}
	}
}

// tells fails, if a node doesn't tell in each part what its sketch says.
func tells(t *testing.T, what string, n Node, s *sketch) {
	t.Helper()
	if n == nil {
		t.Fatal(what, "is nil")
	}
	if n.Kind() != s.kind || n.Count() != len(s.inside()) {
		t.Fatalf("%s: the kind %d, the count %d", what, n.Kind(), n.Count())
	}
	tellsHash(t, what, n, s)
	tellsPair(t, what, n, s)
	tellsTree(t, what, n, s)
	tellsKids(t, what, n, s)
	isOfKind(t, what, n, s.kind)
	if l := Pairs(n); !samePairs(l, s.sorted()) {
		t.Fatalf("%s: Pairs: %v, not %v", what, l, s.sorted())
	}
	for _, level := range levels {
		if Right(n, level) != s.right(level) {
			t.Fatalf("%s: Right at %d isn't %v", what, level, s.right(level))
		}
	}
}

// edgeHashes are the least and the greatest, and each with one bit alone, or one bit lacking.
func edgeHashes() []uint64 {
	l := []uint64{0, math.MaxUint64, 0x0123456789abcdef, 0xfedcba9876543210}
	for i := range 64 {
		l = append(l, 1<<i, ^uint64(1<<i))
	}
	return l
}

// P16.1: the chapter's example.
func TestExample(t *testing.T) {
	if e := Is(Leaf(5, pairOf("a", "1")), api.Bucket); e != api.ErrKind {
		t.Error(e)
	}
}

// P16.1: nil tells nothing, and is of no kind.
func TestNil(t *testing.T) {
	isNone(t, "nil", nil)
}

// P16.1: a leaf of each kind of pair, and of each kind of hash.
func TestLeaf(t *testing.T) {
	long := string(bytes.Repeat([]byte{0xff}, api.MaxKey))
	for _, p := range []api.Pair{
		{}, {Key: []byte{}, Value: []byte{}}, pairOf("", "v"), pairOf("k", ""), {Key: []byte("k")}, {Value: []byte("v")},
		pairOf("\x00", "\x00\x00"), pairOf("\xff\xfe", "\x80"), pairOf(long, long), pairOf(long+"k", long+"v"),
	} {
		for _, h := range []uint64{0, 1, 5, 31, 32, 1 << 63, math.MaxUint64 - 1, math.MaxUint64} {
			tells(t, "a leaf", Leaf(h, p), leafOf(h, p))
		}
	}
	for i, h := range edgeHashes() {
		tells(t, "a leaf", Leaf(h, one(i)), leafOf(h, one(i)))
	}
}

// P16.1: a bucket of nothing, of one pair, of two, and of some hundreds; it has the tree that was handed in.
func TestBucket(t *testing.T) {
	if Bucket(5, nil) != nil || Bucket(0, nil) != nil || Bucket(5, tree.From(nil)) != nil {
		t.Error("a bucket of no pairs is something")
	}
	for i, h := range edgeHashes() {
		tells(t, "a bucket of one", Bucket(h, tree.From(upTo(i, i+1))), leafOf(h, one(i)))
		tells(t, "a bucket of two", Bucket(h, tree.From(upTo(i, i+2))), bucketOf(h, upTo(i, i+2)...))
	}
	tells(t, "a bucket of the empty pair", Bucket(7, new(tree.Tree)), leafOf(7, api.Pair{}))
	for _, n := range []int{2, 3, 4, 5, 10, 31, 32, 33, 300, 777} {
		x := tree.From(upTo(0, n))
		b := Bucket(uint64(n), x)
		tells(t, "a bucket", b, bucketOf(uint64(n), upTo(0, n)...))
		if y, _ := Tree(b); y != x {
			t.Error("another tree", n)
		}
	}
	var grown *tree.Tree
	for i := range 200 {
		grown = grown.Put(one(i*37%200), nil)
	}
	tells(t, "a bucket of a tree that grew", Bucket(9, grown), bucketOf(9, upTo(0, 200)...))
}

// someSets are sets of each size, with numbers at the ends and in the midst.
func someSets(r *rand.Rand) [][]int {
	sets := [][]int{{0, 31}, {0, 1}, {30, 31}, {15, 16}, {3, 5}}
	for i := range 32 {
		sets = append(sets, []int{i})
	}
	for n := 1; n <= 32; n++ {
		for range 4 {
			l := r.Perm(32)[:n]
			slices.Sort(l)
			sets = append(sets, l)
		}
	}
	return sets
}

// anyKids are n leaves, buckets and branches, of which nothing says that they stand right.
func anyKids(r *rand.Rand, n int) []*sketch {
	var kids []*sketch
	for range n {
		i, h := r.Intn(1000), r.Uint64()
		switch r.Intn(3) {
		case 0:
			kids = append(kids, leafOf(h, one(i)))
		case 1:
			kids = append(kids, bucketOf(h, upTo(i, i+2+r.Intn(3))...))
		case 2:
			kids = append(kids, branchOf([]int{3, 7}, leafOf(h, one(i)), leafOf(h+1, one(r.Intn(1000)))))
		}
	}
	return kids
}

// nodes are those of sketches.
func nodes(l []*sketch) []Node {
	var made []Node
	for _, s := range l {
		made = append(made, s.node())
	}
	return made
}

// P16.1: a branch has each child at its number, in their order; each child is the very node that was handed in.
func TestBranch(t *testing.T) {
	r := rand.New(rand.NewSource(1))
	for _, set := range someSets(r) {
		s := branchOf(set, anyKids(r, len(set))...)
		kids := nodes(s.kids)
		x := Branch(bits.Of(set...), kids...)
		tells(t, "a branch", x, s)
		for i, c := range set {
			if k, ok := Kid(x, c); !ok || k != kids[i] {
				t.Fatal("another child", set, c)
			}
		}
	}
}

// P16.1: there is no branch of fewer children than numbers, of more, or of none.
func TestBranchCounts(t *testing.T) {
	r := rand.New(rand.NewSource(2))
	for _, set := range append(someSets(r), nil) {
		kids := nodes(anyKids(r, 34))
		for n := range 35 {
			x := Branch(bits.Of(set...), kids[:n]...)
			if (x != nil) != (n == len(set) && n > 0) {
				t.Fatalf("%d children, the numbers %v: %v", n, set, x)
			}
		}
	}
	a := Leaf(1, one(1))
	for _, x := range []Node{Branch(0), Branch(0, nil), Branch(0, a), Branch(0, nil...), Branch(bits.Of(1)), Branch(bits.Of(1), nil...), Branch(bits.Of(1), []Node{}...), Branch(bits.Of(40), a), Branch(bits.Of(1, 1), a, a)} {
		if x != nil {
			t.Error("a branch:", x)
		}
	}
}

// P16.1: there is no branch with a child that is nil, wherever that stands.
func TestBranchNilChild(t *testing.T) {
	r := rand.New(rand.NewSource(3))
	for _, set := range someSets(r) {
		for i := range set {
			kids := nodes(anyKids(r, len(set)))
			kids[i] = nil
			if x := Branch(bits.Of(set...), kids...); x != nil {
				t.Fatal("a branch with no child at", i, "of", set)
			}
		}
		if x := Branch(bits.Of(set...), make([]Node, len(set))...); x != nil {
			t.Fatal("a branch of no child at all", set)
		}
	}
	a := Leaf(1, one(1))
	if Branch(bits.Of(1, 2), Bucket(1, nil), a) != nil || Branch(bits.Of(1, 2), a, Branch(0)) != nil {
		t.Error("a child that is no node")
	}
}

// P16.1: of branches below branches all pairs are told in the order of their keys, wherever they stand.
func TestPairsOrder(t *testing.T) {
	leaves := func(keys ...string) []*sketch {
		var l []*sketch
		for i, k := range keys {
			l = append(l, leafOf(uint64(i), pairOf(k, "v"+k)))
		}
		return l
	}
	two := []int{4, 9}
	for _, s := range []*sketch{
		branchOf(two, leaves("a", "b")...),
		branchOf(two, leaves("b", "a")...),
		branchOf([]int{0, 1, 31}, leaves("b", "", "a")...),
		branchOf(two, leaves("a\x00", "a")...),
		branchOf(two, branchOf(two, leaves("a", "c")...), branchOf(two, leaves("b", "d")...)),
		branchOf(two, branchOf(two, leaves("b", "c")...), branchOf(two, leaves("a", "d")...)),
		branchOf(two, branchOf(two, leaves("d", "c")...), branchOf(two, leaves("b", "a")...)),
		branchOf(two, bucketOf(1, pairOf("a", "1"), pairOf("c", "2"), pairOf("e", "3")), bucketOf(2, pairOf("b", "4"), pairOf("d", "5"))),
		branchOf(two, bucketOf(1, pairOf("c", "1"), pairOf("d", "2")), branchOf(two, bucketOf(2, pairOf("a", "3"), pairOf("e", "4")), leafOf(3, pairOf("b", "5")))),
	} {
		tells(t, "pairs", s.node(), s)
	}
}

// P16.1: a key that stands in several children is told as often, in their order.
func TestPairsOfOneKey(t *testing.T) {
	var kids []*sketch
	for i := range 32 {
		kids = append(kids, leafOf(uint64(i), pairOf(string("ba"[i%2]), strconv.Itoa(i))))
	}
	s := branchOf(bitsUpTo(32), kids...)
	tells(t, "one key again and again", s.node(), s)
	s = branchOf([]int{1, 2}, branchOf([]int{3, 4}, leafOf(1, pairOf("a", "1")), bucketOf(2, pairOf("a", "2"), pairOf("b", "3"))), leafOf(3, pairOf("a", "4")))
	tells(t, "one key, deep down", s.node(), s)
}

func bitsUpTo(n int) []int {
	var l []int
	for i := range n {
		l = append(l, i)
	}
	return l
}

// P16.1: leaves and buckets are right at each level that there is, whatever their hash is.
func TestRightOfLeavesAndBuckets(t *testing.T) {
	for _, h := range edgeHashes() {
		for _, n := range []Node{Leaf(h, one(1)), Bucket(h, tree.From(upTo(0, 2))), Bucket(h, tree.From(upTo(0, 1)))} {
			for _, level := range levels {
				if Right(n, level) != (level >= 0 && level <= 13) {
					t.Fatal(n.Kind(), level)
				}
			}
		}
	}
}

// at is a hash with one chunk at a level, and noughts at all others.
func at(c, level int) uint64 { return uint64(c) << (5 * level) }

// P16.1: a branch of leaves is right at a level, if the chunks of their hashes at that level are their numbers: at each level, for each two numbers.
func TestRightAtEachLevel(t *testing.T) {
	for level := range 13 {
		for c := 1; c < 32; c++ {
			s := branchOf([]int{0, c}, leafOf(0, one(1)), leafOf(at(c, level), one(2)))
			// The level 12 has chunks of four bits alone.
			if s.right(level) != (level < 12 || c < 16) {
				t.Fatal("the model", level, c)
			}
			tells(t, "a branch", s.node(), s)
		}
	}
	for level := range 13 {
		for right := range 16 {
			for c := range 31 {
				s := branchOf([]int{c, 31}, leafOf(at(right, level), one(1)), leafOf(at(31, level), one(2)))
				if got := Right(s.node(), level); got != (c == right && level < 12) {
					t.Fatal(level, right, c, got)
				}
			}
		}
	}
}

// P16.1: a branch's only child is a branch, or the branch isn't right.
func TestRightOfOnlyChild(t *testing.T) {
	for level := range 13 {
		h := at(3, level)
		leaf, bucket := leafOf(h, one(1)), bucketOf(h, upTo(0, 2)...)
		below := branchOf([]int{0, 5}, leaf, leafOf(h+at(5, level+1), one(2)))
		for _, c := range []struct {
			name  string
			kid   *sketch
			right bool
		}{{"a leaf", leaf, false}, {"a bucket", bucket, false}, {"a branch", below, level < 12}} {
			s := branchOf([]int{3}, c.kid)
			if s.right(level) != c.right {
				t.Fatal("the model", c.name, level)
			}
			tells(t, "its only child is "+c.name, s.node(), s)
		}
		wrong := branchOf([]int{4}, below)
		tells(t, "its only child, at a wrong number", wrong.node(), wrong)
	}
}

// deep is so many branches, one below the other, from a level on, on the way of a hash, with a leaf and a bucket below the last one.
func deep(h uint64, from, branches int) *sketch {
	last := from + branches - 1
	other := h ^ at(1, last)
	c := chunkAt(h, last)
	set := []int{c &^ 1, c | 1}
	s := branchOf(set, leafOf(h, one(1)), bucketOf(other, upTo(2, 5)...))
	if c&1 == 1 {
		s.kids[0], s.kids[1] = s.kids[1], s.kids[0]
	}
	for level := last - 1; level >= from; level-- {
		s = branchOf([]int{chunkAt(h, level)}, s)
	}
	return s
}

// P16.1: branches down to the level 12 are right, thirteen of them from the level 0 on; one more is not.
func TestRightOfDeepBranches(t *testing.T) {
	for _, h := range []uint64{0, math.MaxUint64, 0x0123456789abcdef, 0xfedcba9876543210, 1 << 63} {
		for from := range 13 {
			for branches := 1; from+branches <= 13; branches++ {
				s := deep(h, from, branches)
				if !s.right(from) {
					t.Fatal("the model", h, from, branches)
				}
				for _, level := range levels {
					if got := Right(s.node(), level); got != s.right(level) {
						t.Fatal(h, from, branches, level, got)
					}
				}
			}
		}
		s := branchOf([]int{chunkAt(h, 0)}, deep(h, 0, 13))
		tells(t, "fourteen branches", s.node(), s)
		s = branchOf([]int{0, 1}, leafOf(0, one(1)), leafOf(1, one(2)))
		for range 13 {
			s = branchOf([]int{0}, s)
		}
		tells(t, "fourteen branches of a nought", s.node(), s)
	}
	s := deep(5, 0, 13)
	tells(t, "thirteen branches", s.node(), s)
	if !Right(s.node(), 0) || Right(s.node(), 1) {
		t.Error("thirteen branches")
	}
}

// P16.1: one hash that isn't where its chunks say, at whatever level it is wrong, however deep down, makes all wrong.
func TestRightOfOneWrongHash(t *testing.T) {
	const h = 0x0123456789abcdef
	for branches := 1; branches <= 13; branches++ {
		s := deep(h, 0, branches)
		last := s
		for len(last.kids) == 1 {
			last = last.kids[0]
		}
		for _, k := range last.kids {
			kept := k.hash
			for bit := range 64 {
				k.hash = kept ^ 1<<bit
				// Above the branches' levels any bit may be.
				want := bit >= 5*branches
				if got := Right(s.node(), 0); got != want || s.right(0) != want {
					t.Fatal(branches, bit, got, s.right(0))
				}
			}
			k.hash = kept
		}
	}
}

// grown is the right node, at a level, of hashes that have the same chunks ahead of it.
func grown(r *rand.Rand, hashes []uint64, level int) *sketch {
	if len(hashes) == 1 {
		i := r.Intn(1000)
		if r.Intn(3) == 0 {
			return bucketOf(hashes[0], upTo(i, i+2+r.Intn(4))...)
		}
		return leafOf(hashes[0], one(i))
	}
	s := branchOf(nil)
	for c := range 32 {
		var l []uint64
		for _, h := range hashes {
			if chunkAt(h, level) == c {
				l = append(l, h)
			}
		}
		if l != nil {
			s.numbers = append(s.numbers, c)
			s.kids = append(s.kids, grown(r, l, level+1))
		}
	}
	return s
}

// anyHashes are unlike ones, which have the same chunks ahead of a level, and for some levels behind it often, too.
func anyHashes(r *rand.Rand, level int) []uint64 {
	low := r.Uint64()
	ahead := uint64(1)<<(5*level) - 1
	var l []uint64
	for range 1 + r.Intn(40) {
		alike := uint64(1)<<r.Intn(64) - 1
		h := low&(ahead|alike) | r.Uint64()&^(ahead|alike)
		if !slices.Contains(l, h) {
			l = append(l, h)
		}
	}
	return l
}

// all is a sketch and all below it.
func (s *sketch) all() []*sketch {
	l := []*sketch{s}
	for _, k := range s.kids {
		l = append(l, k.all()...)
	}
	return l
}

// spoil turns one thing of a sketch, wherever it is: a hash, a number, two children, one child more.
func spoil(r *rand.Rand, s *sketch) {
	all := s.all()
	x := all[r.Intn(len(all))]
	if x.kind != 3 {
		x.hash ^= 1 << r.Intn(64)
		return
	}
	i := r.Intn(len(x.kids))
	switch r.Intn(3) {
	case 0:
		if c := r.Intn(32); !slices.Contains(x.numbers, c) {
			x.numbers[i] = c
			slices.Sort(x.numbers)
		}
	case 1:
		j := r.Intn(len(x.kids))
		x.kids[i], x.kids[j] = x.kids[j], x.kids[i]
	case 2:
		x.kids[i] = branchOf([]int{r.Intn(32)}, x.kids[i])
	}
}

// P16.1: nodes of hashes without a pattern, right ones and such as were spoilt, tell all that the chapter says.
func TestNodesAtRandom(t *testing.T) {
	r := rand.New(rand.NewSource(4))
	wrong := 0
	for range 400 {
		level := r.Intn(14)
		hashes := anyHashes(r, level%13)
		if level == 13 {
			hashes = hashes[:1]
		}
		s := grown(r, hashes, level)
		if !s.right(level) {
			t.Fatal("the model")
		}
		tells(t, "a right node", s.node(), s)
		for range 3 {
			spoil(r, s)
			tells(t, "a spoilt node", s.node(), s)
		}
		if !s.right(level) {
			wrong++
		}
	}
	if wrong < 200 {
		t.Error("too few wrong ones:", wrong)
	}
}

// scribble writes over bytes.
func scribble(b []byte) {
	b = b[:cap(b)]
	for i := range b {
		b[i] ^= 0xff
	}
}

// scribbleAll writes over a list of pairs, their bytes and themselves.
func scribbleAll(l []api.Pair) {
	for i := range l {
		scribble(l[i].Key)
		scribble(l[i].Value)
		l[i] = pairOf("other", "other")
	}
}

// P16.1, P16.2: a node never changes, whatever becomes of what was handed in, and of what it told.
func TestNodesStay(t *testing.T) {
	p := pairOf("key", "value")
	a := Leaf(3, p)
	scribble(p.Key)
	scribble(p.Value)
	leaf := leafOf(3, pairOf("key", "value"))
	tells(t, "the pair was written over", a, leaf)
	for range 3 {
		told, _ := Pair(a)
		scribble(told.Key)
		scribble(told.Value)
		scribbleAll(Pairs(a))
		tells(t, "what it told was written over", a, leaf)
	}

	l := upTo(0, 10)
	b := Bucket(5, tree.From(l))
	scribbleAll(l)
	bucket := bucketOf(5, upTo(0, 10)...)
	tells(t, "the list was written over", b, bucket)
	scribbleAll(Pairs(b))
	x, _ := Tree(b)
	scribbleAll(x.List())
	x.Put(one(77), nil)
	x.Delete(one(3).Key, nil)
	tells(t, "what it told was written over", b, bucket)

	kids := []Node{a, b}
	y := Branch(bits.Of(3, 5), kids...)
	kids[0], kids[1] = b, nil
	branch := branchOf([]int{3, 5}, leaf, bucket)
	tells(t, "the children were written over", y, branch)
	scribbleAll(Pairs(y))
	tells(t, "its pairs were written over", y, branch)
	tells(t, "its leaf", a, leaf)
	tells(t, "its bucket", b, bucket)
}

// P16.1: one node may be a child of several, and each stays as it is.
func TestNodesShared(t *testing.T) {
	a, b := leafOf(3, one(1)), bucketOf(5, upTo(2, 4)...)
	x, y := a.node(), b.node()
	both := branchOf([]int{3, 5}, a, b)
	n := Branch(bits.Of(3, 5), x, y)
	above := Branch(bits.Of(0, 1), n, n)
	tells(t, "twice", above, branchOf([]int{0, 1}, both, both))
	tells(t, "itself", n, both)
	Branch(bits.Of(1, 2, 3), y, x, n)
	tells(t, "as it was", n, both)
}

// P16.1: no argument is written into, nor is what lies behind its length.
func TestArgumentsStay(t *testing.T) {
	buffer := []byte("keyvalue, and more")
	p := api.Pair{Key: buffer[:3], Value: buffer[3:8]}
	n := Leaf(1, p)
	tells(t, "a leaf", n, leafOf(1, pairOf("key", "value")))
	if string(buffer) != "keyvalue, and more" {
		t.Error(string(buffer))
	}
	a, b, c := Leaf(1, one(1)), Leaf(2, one(2)), Leaf(3, one(3))
	kids := []Node{a, b, nil, c}
	tells(t, "a branch", Branch(bits.Of(1, 2), kids[:2]...), branchOf([]int{1, 2}, leafOf(1, one(1)), leafOf(2, one(2))))
	if kids[0] != a || kids[1] != b || kids[2] != nil || kids[3] != c {
		t.Error(kids)
	}
	if Branch(bits.Of(1, 2, 3), kids[:2]...) != nil || Branch(bits.Of(1, 2), kids[1:3]...) != nil {
		t.Error("children behind the length")
	}
}

// P16.1: of what is told no two parts share memory: each can be added to.
func TestPairsAreApart(t *testing.T) {
	s := branchOf([]int{1, 2}, leafOf(1, pairOf("b", "1")), bucketOf(2, pairOf("", ""), pairOf("a", "2"), pairOf("c", "3")))
	l := Pairs(s.node())
	for i := range l {
		_ = append(l[i].Key, "more"...)
		_ = append(l[i].Value, "more"...)
	}
	if !samePairs(l, s.sorted()) {
		t.Error(l)
	}
	p, _ := Pair(Leaf(1, pairOf("key", "value")))
	_ = append(p.Key, "more"...)
	if !samePair(p, pairOf("key", "value")) {
		t.Error(p)
	}
}

// panics is what has a node's methods, but isn't one, and can't even be asked.
type panics struct{ Node }

// poses tells whatever is asked of it.
type poses struct{ kind, count int }

func (x *poses) Kind() int  { return x.kind }
func (x *poses) Count() int { return x.count }

// P16.2: what isn't one of the three kinds, whatever it tells of itself, is as no node at all, and no call panics of it but Must.
func TestOthersAreNone(t *testing.T) {
	var none *poses
	a := Leaf(1, one(1))
	for name, n := range map[string]Node{
		"its methods panic": panics{}, "nothing of a type": none, "a node in something else": panics{a}, "a leaf it isn't": &poses{1, 1}, "a bucket it isn't": &poses{2, 2},
		"a branch it isn't": &poses{3, math.MaxInt}, "of no kind": &poses{0, 0}, "of another kind": &poses{4, -1}, "as a pointer": &panics{a},
	} {
		isNone(t, name, n)
		if Branch(bits.Of(1), n) != nil || Branch(bits.Of(1, 2, 3), a, n, a) != nil || Branch(0, n) != nil {
			t.Error(name, "is a child")
		}
	}
}

// P16.2: no call but Must panics on trees whose pairs aren't in order, nor on children that stand anyhow.
func TestWrongInputsEnd(t *testing.T) {
	p := one(9)
	for _, x := range []*tree.Tree{
		tree.From([]api.Pair{p, p}), tree.From([]api.Pair{p, one(1), one(3), {}}), tree.Join(nil, p, new(tree.Tree)), tree.Join(new(tree.Tree), p, tree.From(upTo(0, 50))), tree.Pair(new(tree.Tree), new(tree.Tree), nil),
	} {
		n := Bucket(4, x)
		if n.Kind() != api.Bucket || n.Count() != x.Size() || len(Pairs(n)) != x.Size() || !Right(n, 13) {
			t.Error(n.Kind(), n.Count(), x.Size())
		}
		above := Branch(bits.Of(4, 5), n, n)
		if above.Count() != 2*x.Size() || len(Pairs(above)) != 2*x.Size() || Right(above, 0) || Is(above, api.Branch) != api.OK {
			t.Error(above.Count(), x.Size())
		}
	}
}

// P16.1, P16.2: a node that is a child again and again is counted as often; counts don't go round, and Right ends.
func TestChildAgainAndAgain(t *testing.T) {
	all := make([]Node, 32)
	for name, n := range map[string]Node{"of a leaf": Leaf(0, one(1)), "of a bucket": Bucket(math.MaxUint64, tree.From(upTo(0, 3)))} {
		want, most := n.Count(), false
		for range 40 {
			for i := range all {
				all[i] = n
			}
			n = Branch(bits.Of(bitsUpTo(32)...), all...)
			if most = most || want > math.MaxInt/32; most {
				want = math.MaxInt
			} else {
				want *= 32
			}
			if n.Count() != want {
				t.Fatal(name, n.Count(), want)
			}
			for _, level := range levels {
				if Right(n, level) {
					t.Fatal(name, level)
				}
			}
		}
	}
}

// P16.1, P16.2: branches as deep as may be.
func TestDeepNesting(t *testing.T) {
	n := Bucket(0, tree.From(upTo(0, 3)))
	for range 1 << 16 {
		n = Branch(bits.Of(0), n)
	}
	if n.Count() != 3 || !samePairs(Pairs(n), upTo(0, 3)) || Right(n, 0) || Is(n, api.Branch) != api.OK {
		t.Error(n.Count(), Pairs(n))
	}
}

// P16.1: a right node of many pairs tells them all, each once, in order.
func TestManyPairs(t *testing.T) {
	const most = 20000
	r := rand.New(rand.NewSource(5))
	var kids [32][]Node
	for i := range most {
		kids[i%32] = append(kids[i%32], Leaf(r.Uint64(), one(i*7919%most)))
	}
	n := folded(kids[:])
	if n.Count() != most || !samePairs(Pairs(n), upTo(0, most)) {
		t.Error(n.Count(), len(Pairs(n)))
	}
}

// folded is a branch above all nodes of several lists.
func folded(lists [][]Node) Node {
	var all []Node
	for _, l := range lists {
		for len(l) > 32 {
			l = append(l[32:], Branch(bits.Of(bitsUpTo(32)...), l[:32]...))
		}
		all = append(all, Branch(bits.Of(bitsUpTo(len(l))...), l...))
	}
	return Branch(bits.Of(bitsUpTo(len(all))...), all...)
}
