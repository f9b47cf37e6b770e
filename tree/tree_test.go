package tree

import (
	"bytes"
	"math/big"
	"math/rand"
	"slices"
	"sort"
	"testing"

	"brushwood/api"
	"brushwood/meter"
	"brushwood/weigh"
)

// one is the pair of a number: keys rise with it, and every fifth value is empty.
func one(i int) api.Pair {
	p := api.Pair{Key: []byte{byte(i >> 16), byte(i >> 8), byte(i)}}
	if i%5 != 0 {
		p.Value = []byte{'v', byte(i), byte(i >> 8)}
	}
	return p
}

// upTo is the pairs of the numbers from a on, ahead of b.
func upTo(a, b int) []api.Pair {
	var l []api.Pair
	for i := a; i < b; i++ {
		l = append(l, one(i))
	}
	return l
}

func pairOf(key, value string) api.Pair {
	return api.Pair{Key: []byte(key), Value: []byte(value)}
}

// same tells whether two lists have the same pairs.
func same(a, b []api.Pair) bool {
	if len(a) != len(b) {
		return false
	}
	for i := range a {
		if string(a[i].Key) != string(b[i].Key) || string(a[i].Value) != string(b[i].Value) {
			return false
		}
	}
	return true
}

// evenSizes is layer 10's sentence on two sizes, which aren't held.
func evenSizes(l, r int) bool { return l+1 <= 3*(r+1) && r+1 <= 3*(l+1) }

// measured goes through a tree by its faces, and tells its size and its height, and what is wrong with it.
func measured(x *Tree) (size, height int, wrong string) {
	if x == nil {
		return 0, 0, ""
	}
	leftSize, leftHeight, wrong := measured(x.Left())
	if wrong != "" {
		return 0, 0, wrong
	}
	rightSize, rightHeight, wrong := measured(x.Right())
	if wrong != "" {
		return 0, 0, wrong
	}
	if !evenSizes(leftSize, rightSize) {
		return 0, 0, "not even"
	}
	size, height = leftSize+rightSize+1, max(leftHeight, rightHeight)+1
	if x.Size() != size {
		return 0, 0, "size"
	}
	return size, height, ""
}

// inOrder tells a tree's pairs by its faces Left, Right and Root.
func inOrder(x *Tree) []api.Pair {
	if x == nil {
		return nil
	}
	return append(append(inOrder(x.Left()), x.Root()), inOrder(x.Right())...)
}

// isTreeOf fails, if x isn't a sound tree of just these pairs, which are sorted, or tells something wrong of itself.
func isTreeOf(t *testing.T, what string, x *Tree, want []api.Pair) {
	t.Helper()
	size, height, wrong := measured(x)
	if wrong != "" {
		t.Fatalf("%s: %s", what, wrong)
	}
	if size != len(want) || x.Size() != len(want) {
		t.Fatalf("%s: the size %d, told %d, not %d", what, size, x.Size(), len(want))
	}
	if x.Height() != height || height > weigh.Height(size) && size <= api.MaxPairs {
		t.Fatalf("%s: the height %d, told %d", what, height, x.Height())
	}
	if !same(inOrder(x), want) || !same(x.List(), want) {
		t.Fatalf("%s: other pairs: %v", what, x.List())
	}
	if !x.Sound() {
		t.Fatalf("%s: not told to be sound", what)
	}
}

// shares are ways to lay an even tree of n pairs: how many of them lie on the left.
func shares(r *rand.Rand) map[string]func(n int) int {
	least := func(n int) int { return sort.Search(n, func(l int) bool { return evenSizes(l, n-1-l) }) }
	return map[string]func(n int) int{
		"low":   func(n int) int { return (n - 1) / 2 },
		"left":  func(n int) int { return n - 1 - least(n) },
		"right": least,
		"zag": func(n int) int {
			if n%2 == 0 {
				return least(n)
			}
			return n - 1 - least(n)
		},
		"any": func(n int) int { return least(n) + r.Intn(n-2*least(n)) },
	}
}

// shaped is a tree of a sorted list, laid as is asked.
func shaped(l []api.Pair, share func(n int) int) *Tree {
	if len(l) == 0 {
		return nil
	}
	k := share(len(l))
	return node(shaped(l[:k], share), keep(l[k]), shaped(l[k+1:], share))
}

// allShapes is every even tree of a sorted list.
func allShapes(l []api.Pair) []*Tree {
	if len(l) == 0 {
		return []*Tree{nil}
	}
	var all []*Tree
	for k := range l {
		if !evenSizes(k, len(l)-1-k) {
			continue
		}
		for _, left := range allShapes(l[:k]) {
			for _, right := range allShapes(l[k+1:]) {
				all = append(all, node(left, keep(l[k]), right))
			}
		}
	}
	return all
}

// onWay is how many nodes lie on the way to a key, that with the key last, and the node with it.
func onWay(x *Tree, key []byte) (int, *Tree) {
	steps := 0
	for x != nil {
		steps++
		switch bytes.Compare(key, x.Root().Key) {
		case 0:
			return steps, x
		case -1:
			x = x.Left()
		default:
			x = x.Right()
		}
	}
	return steps, nil
}

// toFirst is how many nodes are gone through for the first pair.
func toFirst(x *Tree) int {
	steps := 0
	for ; x != nil; x = x.Left() {
		steps++
	}
	return steps
}

// forDelete is how many nodes a Delete visits.
func forDelete(x *Tree, key []byte) int {
	steps, found := onWay(x, key)
	if found != nil && found.Left() != nil {
		steps += toFirst(found.Right())
	}
	return steps
}

// within tells whether v is at most 2 + 3 log2(n + 1): 2 to the power v - 2 is at most n + 1 to the power 3.
func within(v, n int) bool {
	if v <= 2 {
		return true
	}
	cube := new(big.Int).Exp(big.NewInt(int64(n)+1), big.NewInt(3), nil)
	return new(big.Int).Lsh(big.NewInt(1), uint(v-2)).Cmp(cube) <= 0
}

// put is a model of Put: a sorted list with p.
func put(l []api.Pair, p api.Pair) []api.Pair {
	i, found := placeOf(l, p.Key)
	l = slices.Clone(l)
	if found {
		l[i] = p
		return l
	}
	return slices.Insert(l, i, p)
}

// without is a model of Delete.
func without(l []api.Pair, key []byte) ([]api.Pair, bool) {
	i, found := placeOf(l, key)
	if !found {
		return l, false
	}
	return slices.Delete(slices.Clone(l), i, i+1), true
}

func placeOf(l []api.Pair, key []byte) (int, bool) {
	i := sort.Search(len(l), func(i int) bool { return string(l[i].Key) >= string(key) })
	return i, i < len(l) && string(l[i].Key) == string(key)
}

// P11.1: the chapter's example.
func TestExample(t *testing.T) {
	var x *Tree
	for _, k := range []string{"b", "a", "c"} {
		x = x.Put(pairOf(k, "1"), nil)
	}
	y, ok := x.Delete([]byte("b"), nil)
	if !ok {
		t.Fatal("b isn't found")
	}
	isTreeOf(t, "without b", y, []api.Pair{pairOf("a", "1"), pairOf("c", "1")})
	isTreeOf(t, "as it was", x, []api.Pair{pairOf("a", "1"), pairOf("b", "1"), pairOf("c", "1")})
}

// P11.1: of nothing all calls tell nothing, and it is sound.
func TestNothing(t *testing.T) {
	var x *Tree
	if x.Size() != 0 || x.Height() != 0 || x.Left() != nil || x.Right() != nil || len(x.List()) != 0 || !x.Sound() {
		t.Error("nothing isn't told as nothing")
	}
	if p := x.Root(); p.Key != nil || p.Value != nil {
		t.Error("the root of nothing:", p)
	}
	for _, key := range [][]byte{nil, {}, []byte("a")} {
		m := &meter.Meter{}
		if v, ok := x.Get(key, m); v != nil || ok {
			t.Error("Get of nothing:", v, ok)
		}
		if y, ok := x.Delete(key, m); y != nil || ok {
			t.Error("Delete of nothing:", y, ok)
		}
		p := api.Pair{Key: key, Value: []byte("v")}
		isTreeOf(t, "Put into nothing", x.Put(p, m), []api.Pair{p})
		if *m != (meter.Meter{}) {
			t.Error("nothing has nodes that are visited:", *m)
		}
	}
	if From(nil) != nil || From([]api.Pair{}) != nil || From(upTo(0, 3)[:0]) != nil {
		t.Error("a tree of no pairs is something")
	}
	m := &meter.Meter{}
	if Pair(nil, nil, m) != nil || *m != (meter.Meter{}) {
		t.Error("Pair of nothing and nothing:", *m)
	}
	isTreeOf(t, "Join of nothing and nothing", Join(nil, one(1), nil), upTo(1, 2))
}

// P11.1: From of each length is sound, has just these pairs, and isn't higher than an even tree may be; Left, Right and Root are of one node.
func TestFromEachLength(t *testing.T) {
	for n := range 700 {
		l := upTo(0, n)
		x := From(l)
		isTreeOf(t, "From", x, l)
		if n > 0 && (x.Left().Size()+1+x.Right().Size() != n || !same([]api.Pair{x.Root()}, l[x.Left().Size():x.Left().Size()+1])) {
			t.Fatal(n, "a node's parts")
		}
	}
}

// P11.1: keys that begin alike, the empty key, and bytes of all kinds are kept as they are.
func TestFromOddKeys(t *testing.T) {
	l := []api.Pair{pairOf("", ""), pairOf("\x00", "\x00"), pairOf("\x00\x00", ""), pairOf("a", "b"), pairOf("a\x00", "\xff"), pairOf("ab", "a"), pairOf("\xff", ""), pairOf("\xff\xff", "z")}
	long := api.Pair{Key: bytes.Repeat([]byte{0xff}, api.MaxKey), Value: bytes.Repeat([]byte("v"), api.MaxValue)}
	l = append(l, long)
	x := From(l)
	isTreeOf(t, "From", x, l)
	var y *Tree
	for i := range l {
		y = y.Put(l[(i*5)%len(l)], nil)
	}
	isTreeOf(t, "Put", y, l)
	for _, p := range l {
		if v, ok := x.Get(p.Key, nil); !ok || string(v) != string(p.Value) {
			t.Error("Get:", len(p.Key), len(v), ok)
		}
	}
	for _, k := range []string{"\x01", "a\x01", "b", "\x00\x00\x00", "\xfe"} {
		if v, ok := x.Get([]byte(k), nil); v != nil || ok {
			t.Errorf("Get of %q: %v, %v", k, v, ok)
		}
	}
}

// P11.1, P11.2: Join and Pair at every cut of a list, of trees of all shapes: all pairs, in order, sound; both trees stay.
func TestJoinEveryCut(t *testing.T) {
	const n = 200
	l := upTo(0, n)
	ways := shares(rand.New(rand.NewSource(1)))
	for leftName, leftWay := range ways {
		for rightName, rightWay := range ways {
			for k := range n + 1 {
				what := leftName + " and " + rightName
				left, right := shaped(l[:k], leftWay), shaped(l[k:], rightWay)
				isTreeOf(t, what+" paired", Pair(left, right, nil), l)
				isTreeOf(t, what+": l behind Pair", left, l[:k])
				isTreeOf(t, what+": r behind Pair", right, l[k:])
				if k == n {
					continue
				}
				right = shaped(l[k+1:], rightWay)
				isTreeOf(t, what+" joined", Join(left, l[k], right), l)
				isTreeOf(t, what+": l behind Join", left, l[:k])
				isTreeOf(t, what+": r behind Join", right, l[k+1:])
			}
		}
	}
}

// P11.1: Join and Pair of every even tree of few pairs with every other one.
func TestJoinAllShapes(t *testing.T) {
	const most = 8
	for a := range most {
		for _, left := range allShapes(upTo(0, a)) {
			for b := range most {
				for _, right := range allShapes(upTo(a+1, a+1+b)) {
					isTreeOf(t, "Join", Join(left, one(a), right), upTo(0, a+1+b))
					isTreeOf(t, "Pair", Pair(left, right, nil), append(upTo(0, a), upTo(a+1, a+1+b)...))
				}
			}
		}
	}
}

// P11.1: sizes as unlike as can be, both ways round.
func TestJoinUnlikeSizes(t *testing.T) {
	ways := shares(rand.New(rand.NewSource(2)))
	for _, great := range []int{1000, 1023, 1024, 4095} {
		for name, way := range ways {
			for _, small := range []int{0, 1, 2, 3, 7, 30, 200} {
				l := upTo(0, small+1+great)
				joined := Join(shaped(l[:small], way), l[small], shaped(l[small+1:], way))
				isTreeOf(t, name+": small first", joined, l)
				isTreeOf(t, name+": small first, paired", Pair(shaped(l[:small], way), shaped(l[small:], way), nil), l)
				joined = Join(shaped(l[:great], way), l[great], shaped(l[great+1:], way))
				isTreeOf(t, name+": great first", joined, l)
				isTreeOf(t, name+": great first, paired", Pair(shaped(l[:great], way), shaped(l[great:], way), nil), l)
			}
		}
	}
}

// P11.1: random sizes and shapes, joined again and again.
func TestJoinAtRandom(t *testing.T) {
	r := rand.New(rand.NewSource(3))
	way := shares(r)["any"]
	for range 300 {
		var x *Tree
		n := 0
		for range 6 {
			k := 1 << r.Intn(9)
			k += r.Intn(k)
			piece := shaped(upTo(n+1, n+1+k), way)
			x = Join(x, one(n), piece)
			n += k + 1
		}
		isTreeOf(t, "Join", x, upTo(0, n))
	}
}

// P11.1: two trees that have together more pairs than a map: even, too, by the sizes as they are.
func TestJoinAboveMaxPairs(t *testing.T) {
	const great, small = api.MaxPairs + api.MaxPairs/4, api.MaxPairs * 3 / 8
	l := upTo(0, great+1+small)
	left, right := From(l[:great]), From(l[great+1:])
	for name, x := range map[string]*Tree{
		"great first":         Join(left, l[great], right),
		"great first, paired": Pair(left, right, nil),
		"small first":         Join(From(l[:small]), l[small], From(l[small+1:])),
	} {
		if size, _, wrong := measured(x); wrong != "" || size < great+small || !x.Sound() {
			t.Error(name, size, wrong, x.Sound())
		}
	}
	if x := node(left, keep(l[great]), right); x.Sound() {
		t.Error("above MaxPairs a tree that isn't even is told to be sound")
	}
}

// P11.1: what one turn makes even, and what takes two, above MaxPairs as below it.
func TestSingleAboveMaxPairs(t *testing.T) {
	const big = api.MaxPairs
	for _, c := range []struct{ l, inner, outer int }{
		{big, big, 2 * big}, {big + 1, 3 * big, big}, {big + 1, 3*big + 6, big}, {big + 1, 3*big + 5, 2 * big},
		{big / 2, big + 1, big}, {big / 3, big + 1, big}, {big / 4, big + 1, big}, {2 * big, 2 * big, 12*big + 5}, {2 * big, 2 * big, 12*big + 6},
		{2 * big, 2 * big, 4*big/3 - 1}, {2 * big, 2 * big, 4 * big / 3}, {2 * big, 2 * big, 4*big/3 + 1},
	} {
		want := evenSizes(c.l, c.inner) && evenSizes(c.l+c.inner+1, c.outer)
		if single(c.l, c.inner, c.outer) != want {
			t.Error(c, !want)
		}
	}
	for _, n := range []int{0, 1, big / 3, big/3 + 1, big - 1, big, big + 1, 3*big - 1, 3 * big, 3*big + 2, 3*big + 3, 9 * big} {
		for _, m := range []int{0, big / 3, big/3 + 1, big - 1, big, big + 1, 3*big + 2, 3*big + 3, 3*big + 6} {
			if even(n, m) != evenSizes(n, m) {
				t.Error(n, m, even(n, m))
			}
		}
	}
}

// P11.1: what Pair goes through for r's first pair is visited, where l has any; no key is compared.
func TestPairVisits(t *testing.T) {
	for name, way := range shares(rand.New(rand.NewSource(4))) {
		for n := range 150 {
			for _, k := range []int{0, 1, 2, n / 3, n / 2, n - 1, n} {
				k = max(0, min(k, n))
				l := upTo(0, n)
				left, right := shaped(l[:k], way), shaped(l[k:], way)
				want := 0
				if left != nil {
					want = toFirst(right)
				}
				m := &meter.Meter{Visits: 5, Compares: 2}
				x := Pair(left, right, m)
				if *m != (meter.Meter{Visits: 5 + want, Compares: 2}) {
					t.Fatalf("%s: %d of %d: %+v, not %d visits", name, k, n, *m, want)
				}
				isTreeOf(t, name, x, l)
			}
		}
	}
}

// P11.1: a tree isn't sound whose keys don't rise, wherever that is, or that isn't even, wherever that is.
func TestSoundTellsFaults(t *testing.T) {
	a, b, c, d := pairOf("a", ""), pairOf("b", ""), pairOf("c", ""), pairOf("d", "")
	leaf := func(p api.Pair) *Tree { return Join(nil, p, nil) }
	for name, x := range map[string]*Tree{
		"two turned about":        From([]api.Pair{b, a}),
		"twice, at the root":      From([]api.Pair{a, a}),
		"twice, below":            From([]api.Pair{a, b, c, d, d}),
		"last turned about":       From([]api.Pair{a, b, d, c}),
		"right is less":           Join(leaf(a), c, leaf(b)),
		"left is more":            Join(leaf(c), b, leaf(d)),
		"left below is more":      Join(Join(nil, a, leaf(d)), b, leaf(c)),
		"right below is less":     Join(leaf(b), c, Join(leaf(a), d, nil)),
		"right below is the same": Join(leaf(b), c, Join(leaf(c), d, nil)),
		"not even at the root":    node(nil, keep(one(0)), From(upTo(1, 4))),
		"not even the other way":  node(From(upTo(0, 3)), keep(one(3)), nil),
		"not even below":          node(From(upTo(0, 4)), keep(one(4)), node(nil, keep(one(5)), From(upTo(6, 9)))),
		"not even below, left":    node(node(From(upTo(0, 3)), keep(one(3)), nil), keep(one(4)), From(upTo(5, 9))),
	} {
		if x.Sound() {
			t.Error(name)
		}
	}
	for n := range 40 {
		for i := range n {
			l := upTo(0, n)
			if i > 0 {
				l[i] = l[i-1]
				if From(l).Sound() {
					t.Error("the same key twice:", i, n)
				}
				l = upTo(0, n)
				l[i], l[i-1] = l[i-1], l[i]
				if From(l).Sound() {
					t.Error("turned about:", i, n)
				}
			}
		}
	}
	for left := range 40 {
		for right := range 40 {
			x := node(From(upTo(0, left)), keep(one(left)), From(upTo(left+1, left+1+right)))
			if x.Sound() != evenSizes(left, right) {
				t.Error(left, right, x.Sound())
			}
		}
	}
}

// P11.1, P11.2: Put at every place of trees of all shapes, of a key that is there, and of a new one.
func TestPutEveryPlace(t *testing.T) {
	ways := shares(rand.New(rand.NewSource(5)))
	for name, way := range ways {
		for _, n := range []int{1, 2, 3, 4, 5, 6, 7, 8, 15, 16, 31, 60, 100} {
			var l []api.Pair
			for i := range n {
				l = append(l, one(2*i+1))
			}
			x := shaped(l, way)
			for i := range 2*n + 1 {
				for _, value := range []string{"", "new"} {
					p := api.Pair{Key: one(i).Key, Value: []byte(value)}
					isTreeOf(t, name+": Put", x.Put(p, nil), put(l, p))
					isTreeOf(t, name+": as it was", x, l)
				}
			}
			p := api.Pair{Value: []byte("of the empty key")}
			y := x.Put(p, nil)
			isTreeOf(t, name+": the empty key", y, put(l, p))
			isTreeOf(t, name+": the empty key, an empty value", y.Put(api.Pair{Key: []byte{}}, nil), put(l, api.Pair{}))
		}
	}
}

// P11.1: Put of a key that is there changes its value alone.
func TestPutThereKeepsOthers(t *testing.T) {
	l := upTo(0, 50)
	x := From(l)
	for i := range l {
		y := x.Put(api.Pair{Key: one(i).Key, Value: []byte("other")}, nil)
		if y.Size() != x.Size() {
			t.Fatal(i, y.Size())
		}
		for j, p := range y.List() {
			want := string(l[j].Value)
			if j == i {
				want = "other"
			}
			if string(p.Key) != string(l[j].Key) || string(p.Value) != want {
				t.Fatal(i, j, p)
			}
		}
	}
}

// P11.1, P11.2: Delete at every place of trees of all shapes; of a key that isn't there: the tree as it is, and false.
func TestDeleteEveryPlace(t *testing.T) {
	ways := shares(rand.New(rand.NewSource(6)))
	for name, way := range ways {
		for _, n := range []int{1, 2, 3, 4, 5, 6, 7, 8, 15, 16, 31, 60, 100} {
			var l []api.Pair
			for i := range n {
				l = append(l, one(2*i+1))
			}
			x := shaped(l, way)
			for i := range 2*n + 1 {
				want, found := without(l, one(i).Key)
				y, ok := x.Delete(one(i).Key, nil)
				if ok != found || !ok && y != x {
					t.Fatal(name, n, i, ok)
				}
				isTreeOf(t, name+": Delete", y, want)
				isTreeOf(t, name+": as it was", x, l)
			}
			if y, ok := x.Delete(nil, nil); ok || y != x {
				t.Fatal(name, n, "the empty key", ok)
			}
		}
	}
}

// P11.1: Delete of the root, of a leaf, of a node with a left tree, with a right one, with both, and of the only pair.
func TestDeleteKindsOfNodes(t *testing.T) {
	a, b, c, d := pairOf("a", "1"), pairOf("b", "2"), pairOf("c", "3"), pairOf("d", "4")
	leaf := func(p api.Pair) *Tree { return node(nil, keep(p), nil) }
	for _, c := range []struct {
		name   string
		x      *Tree
		key    string
		want   []api.Pair
		visits int
	}{
		{"the only pair", leaf(a), "a", nil, 1},
		{"a leaf", node(leaf(a), keep(b), leaf(c)), "a", []api.Pair{b, c}, 2},
		{"the root of three", node(leaf(a), keep(b), leaf(c)), "b", []api.Pair{a, c}, 2},
		{"a root with a left tree", node(leaf(a), keep(b), nil), "b", []api.Pair{a}, 1},
		{"a root with a right tree", node(nil, keep(a), leaf(b)), "a", []api.Pair{b}, 1},
		{"a node with a left tree", node(node(leaf(a), keep(b), nil), keep(c), leaf(d)), "b", []api.Pair{a, c, d}, 2},
		{"a node with a right tree", node(node(nil, keep(a), leaf(b)), keep(c), leaf(d)), "a", []api.Pair{b, c, d}, 2},
		{"a root above a node with a right tree", node(leaf(a), keep(b), node(nil, keep(c), leaf(d))), "b", []api.Pair{a, c, d}, 2},
		{"a root above a node with a left tree", node(leaf(a), keep(b), node(leaf(c), keep(d), nil)), "b", []api.Pair{a, c, d}, 3},
	} {
		m := &meter.Meter{}
		y, ok := c.x.Delete([]byte(c.key), m)
		if !ok || m.Visits != c.visits {
			t.Error(c.name, ok, *m)
		}
		isTreeOf(t, c.name, y, c.want)
	}
	if y, ok := leaf(pairOf("", "v")).Delete(nil, nil); !ok || y != nil {
		t.Error("the empty key:", y, ok)
	}
}

// P11.1: Get of keys that are there and that aren't, of trees of all shapes.
func TestGetEveryPlace(t *testing.T) {
	for name, way := range shares(rand.New(rand.NewSource(7))) {
		for _, n := range []int{1, 2, 3, 10, 100, 333} {
			var l []api.Pair
			for i := range n {
				l = append(l, one(2*i+1))
			}
			x := shaped(l, way)
			for i := range 2*n + 1 {
				v, ok := x.Get(one(i).Key, nil)
				if ok != (i%2 == 1) || !ok && v != nil || ok && string(v) != string(one(i).Value) {
					t.Fatal(name, n, i, v, ok)
				}
			}
			if v, ok := x.Get(nil, nil); v != nil || ok {
				t.Fatal(name, n, "the empty key", v, ok)
			}
		}
	}
	x := From([]api.Pair{pairOf("", "e"), pairOf("a", "")})
	if v, ok := x.Get([]byte{}, nil); !ok || string(v) != "e" {
		t.Error("the empty key:", v, ok)
	}
	if v, ok := x.Get([]byte("a"), nil); !ok || len(v) != 0 {
		t.Error("an empty value:", v, ok)
	}
}

// inTurn puts and deletes the pairs of these numbers, one by one, and holds each answer against the model.
func inTurn(t *testing.T, what string, puts, deletes []int) {
	t.Helper()
	var x *Tree
	var l []api.Pair
	for _, i := range puts {
		x, l = x.Put(one(i), nil), put(l, one(i))
		isTreeOf(t, what+": Put", x, l)
	}
	for _, i := range deletes {
		y, ok := x.Delete(one(i).Key, nil)
		rest, found := without(l, one(i).Key)
		if ok != found {
			t.Fatal(what, i, ok)
		}
		x, l = y, rest
		isTreeOf(t, what+": Delete", x, l)
	}
}

// P11.1: each answer is sound behind long sequences of Put and Delete: rising, falling, from both ends, from the middle, and at random.
func TestLongSequences(t *testing.T) {
	const n = 300
	r := rand.New(rand.NewSource(8))
	orders := map[string][]int{"at random": r.Perm(n), "at random again": r.Perm(n)}
	for i := range n {
		orders["rising"] = append(orders["rising"], i)
		orders["falling"] = append(orders["falling"], n-1-i)
		ends, middle := i/2, n/2+i/2
		if i%2 == 1 {
			ends, middle = n-1-i/2, n/2-1-i/2
		}
		orders["from both ends"] = append(orders["from both ends"], ends)
		orders["from the middle"] = append(orders["from the middle"], middle)
	}
	for putName, puts := range orders {
		for deleteName, deletes := range orders {
			inTurn(t, putName+", then "+deleteName, puts, deletes)
		}
	}
}

// P11.1, P11.2, P11.3: Put and Delete mixed: each answer is that of the model, within the bound, and each earlier tree has its pairs at the end.
func TestMixedAndEachVersionStays(t *testing.T) {
	type version struct {
		x *Tree
		l []api.Pair
	}
	for seed := range 6 {
		r := rand.New(rand.NewSource(int64(100 + seed)))
		versions := []version{{}}
		for step := range 1500 {
			v := versions[len(versions)-1]
			if r.Intn(20) == 0 {
				v = versions[r.Intn(len(versions))]
			}
			p := api.Pair{Key: one(r.Intn(30 << (seed * 2))).Key, Value: []byte{byte(step), byte(step >> 8)}[:r.Intn(3)]}
			m := &meter.Meter{}
			if r.Intn(500) < 300-step/10 {
				steps, _ := onWay(v.x, p.Key)
				y := v.x.Put(p, m)
				if *m != (meter.Meter{Visits: steps, Compares: steps}) {
					t.Fatal(seed, step, *m)
				}
				versions = append(versions, version{y, put(v.l, p)})
			} else {
				steps, found := onWay(v.x, p.Key)
				y, ok := v.x.Delete(p.Key, m)
				if *m != (meter.Meter{Visits: forDelete(v.x, p.Key), Compares: steps}) || ok != (found != nil) {
					t.Fatal(seed, step, *m, ok)
				}
				rest, _ := without(v.l, p.Key)
				versions = append(versions, version{y, rest})
			}
			if !within(m.Visits, v.x.Size()) {
				t.Fatal(seed, step, *m, v.x.Size())
			}
			last := versions[len(versions)-1]
			isTreeOf(t, "the answer", last.x, last.l)
		}
		for _, v := range versions {
			isTreeOf(t, "an earlier one", v.x, v.l)
		}
	}
}

// overwrite writes over bytes that were handed in or told, and over what lies behind their length.
func overwrite(lists ...[]byte) {
	for _, b := range lists {
		b = b[:cap(b)]
		for i := range b {
			b[i] = 0xee
		}
	}
}

// roomy is the same bytes with room behind them.
func roomy(b []byte) []byte { return append(make([]byte, 0, len(b)+8), b...) }

// roomyPair is a new pair with room behind its bytes.
func roomyPair(p api.Pair) api.Pair {
	return api.Pair{Key: roomy(p.Key), Value: roomy(p.Value)}
}

// P11.2: bytes that were handed in may be written over, and no tree changes; nor is one of them written into.
func TestNothingHandedInIsKept(t *testing.T) {
	const n = 60
	l := upTo(0, n)
	handed := make([]api.Pair, 0, n+3)
	for _, p := range l {
		handed = append(handed, roomyPair(p))
	}
	from := From(handed)
	if !same(handed, l) {
		t.Error("From writes into its list")
	}
	mid := roomyPair(l[20])
	joined := Join(From(handed[:20]), mid, From(handed[21:]))
	var byPut *Tree
	for _, p := range l {
		byPut = byPut.Put(roomyPair(p), nil)
	}
	for _, p := range l {
		q := roomyPair(p)
		byPut = byPut.Put(q, nil)
		if !same([]api.Pair{q}, []api.Pair{p}) || slices.ContainsFunc(q.Key[len(q.Key):cap(q.Key)], func(b byte) bool { return b != 0 }) {
			t.Fatal("Put writes into its pair")
		}
		overwrite(q.Key, q.Value)
	}
	key := roomy(l[7].Key)
	from.Get(key, nil)
	without7, _ := from.Delete(key, nil)
	if string(key) != string(l[7].Key) {
		t.Error("a key that is sought is written into")
	}
	overwrite(key, mid.Key, mid.Value)
	for i := range handed {
		overwrite(handed[i].Key, handed[i].Value)
		handed[i] = api.Pair{}
	}
	isTreeOf(t, "From", from, l)
	isTreeOf(t, "Join", joined, l)
	isTreeOf(t, "Put", byPut, l)
	rest, _ := without(l, l[7].Key)
	isTreeOf(t, "Delete", without7, rest)
}

// P11.2: bytes that List, Root and Get told may be written over, and no tree changes; no two of them share memory.
func TestNothingToldIsKept(t *testing.T) {
	l := upTo(0, 60)
	x := From(l)
	y := x.Put(pairOf("more", "and more"), nil)
	for _, z := range []*Tree{x, y} {
		told := z.List()
		for i := range told {
			// Whether there is room behind them or not: neither the bytes nor that room are a tree's.
			overwrite(append(told[i].Key, "behind"...), append(told[i].Value, "behind"...))
			overwrite(told[i].Key, told[i].Value)
			told[i] = api.Pair{}
		}
		var down func(z *Tree)
		down = func(z *Tree) {
			if z != nil {
				p, q := z.Root(), z.Root()
				overwrite(p.Key, p.Value)
				if string(q.Key) != string(z.Root().Key) || string(q.Value) != string(z.Root().Value) {
					t.Fatal("two answers of Root share memory")
				}
				down(z.Left())
				down(z.Right())
			}
		}
		down(z)
		for _, p := range l {
			v, _ := z.Get(p.Key, nil)
			overwrite(append(v, "behind"...), v)
		}
	}
	isTreeOf(t, "a tree", x, l)
	isTreeOf(t, "what came of it", y, put(l, pairOf("more", "and more")))
	told := x.List()
	for i := range told {
		overwrite(told[i].Key)
		rest := x.List()
		if string(told[i].Value) != string(rest[i].Value) || i+1 < len(told) && !same(told[i+1:], rest[i+1:]) {
			t.Fatal("two bytes of one list share memory:", i)
		}
	}
}

// P11.2: no call changes a tree that it is asked of, or handed.
func TestEachVersionStays(t *testing.T) {
	for name, way := range shares(rand.New(rand.NewSource(9))) {
		l := upTo(100, 200)
		x := shaped(l, way)
		for i := 95; i < 205; i++ {
			m := &meter.Meter{}
			p := api.Pair{Key: one(i).Key, Value: []byte("new")}
			x.Put(p, m)
			x.Get(p.Key, m)
			x.Delete(p.Key, m)
			Join(x, one(300), From(upTo(301, 301+i)))
			Join(From(upTo(0, i-95)), one(99), x)
			Pair(x, From(upTo(301, 301+i)), m)
			Pair(From(upTo(0, i-95)), x, m)
			_, _, _, _, _, _, _ = x.Size(), x.Height(), x.Left(), x.Right(), x.Root(), x.List(), x.Sound()
			isTreeOf(t, name, x, l)
		}
	}
}

// P11.3: Get, Put and Delete visit just the nodes on their way, at most 2 and 3 log2(n + 1), compare one key at each that is sought at, and answer the same without a meter.
func TestVisits(t *testing.T) {
	for name, way := range shares(rand.New(rand.NewSource(10))) {
		for _, n := range []int{0, 1, 2, 3, 4, 5, 8, 13, 21, 40, 100, 500, 1500} {
			var l []api.Pair
			for i := range n {
				l = append(l, one(2*i+1))
			}
			x := shaped(l, way)
			for i := range 2*n + 1 {
				visitsOfOne(t, name, x, one(i).Key)
			}
			visitsOfOne(t, name, x, nil)
		}
	}
}

// visitsOfOne holds what Get, Put and Delete of one key count, and answer, against what is asked.
func visitsOfOne(t *testing.T, name string, x *Tree, key []byte) {
	t.Helper()
	steps, found := onWay(x, key)
	// A meter that has counted before goes on: so it isn't set, but added to.
	seek := meter.Meter{Visits: 40 + steps, Compares: 30 + steps}
	m := meter.Meter{Visits: 40, Compares: 30}
	v, ok := x.Get(key, &m)
	w, okBare := x.Get(key, nil)
	if m != seek || ok != (found != nil) || ok != okBare || string(v) != string(w) {
		t.Fatalf("%s: Get of %v: %+v, not %+v", name, key, m, seek)
	}
	p := api.Pair{Key: key, Value: []byte("new")}
	m = meter.Meter{Visits: 40, Compares: 30}
	y, bare := x.Put(p, &m), x.Put(p, nil)
	if m != seek || !alike(y, bare) {
		t.Fatalf("%s: Put of %v: %+v, not %+v", name, key, m, seek)
	}
	m = meter.Meter{Visits: 40, Compares: 30}
	y, ok = x.Delete(key, &m)
	bare, okBare = x.Delete(key, nil)
	seek.Visits = 40 + forDelete(x, key)
	if m != seek || ok != (found != nil) || ok != okBare || !alike(y, bare) {
		t.Fatalf("%s: Delete of %v: %+v, not %+v", name, key, m, seek)
	}
	if !within(m.Visits-40, x.Size()) || !within(steps, x.Size()) {
		t.Fatalf("%s: %d visits of %d pairs", name, m.Visits-40, x.Size())
	}
}

// alike tells whether two trees are the same, node for node.
func alike(x, y *Tree) bool {
	if x == nil || y == nil {
		return x == y
	}
	return x == y || x.Size() == y.Size() && same([]api.Pair{x.Root()}, []api.Pair{y.Root()}) && alike(x.Left(), y.Left()) && alike(x.Right(), y.Right())
}

// P11.3: trees that are as high as they can be for their size are within the bound at their deepest node.
func TestVisitsOfHighTrees(t *testing.T) {
	high := func(n int) int {
		right := weigh.Beside(weigh.Least(weigh.Height(n) - 1))
		if !evenSizes(n-1-right, right) {
			return (n - 1) / 2
		}
		return n - 1 - right
	}
	for h := 1; h <= 40; h++ {
		n := weigh.Least(h)
		x := shaped(upTo(0, n), high)
		if x.Height() != h || !x.Sound() {
			t.Fatal("the highest tree isn't so high:", h, x.Height())
		}
		first := one(0).Key
		var get, put, del meter.Meter
		x.Get(first, &get)
		x.Put(one(0), &put)
		x.Delete(first, &del)
		for _, m := range []meter.Meter{get, put, del} {
			if m != (meter.Meter{Visits: h, Compares: h}) || !within(h, n) {
				t.Error(h, n, m)
			}
		}
		y, _ := x.Delete(first, nil)
		if !y.Sound() || !x.Put(api.Pair{}, nil).Sound() {
			t.Error("not sound:", h)
		}
	}
}

// P11.1: where a list isn't sorted, or keys aren't as said, each call ends, and what it answers has as many pairs as were handed in.
func TestWrongInputsEnd(t *testing.T) {
	r := rand.New(rand.NewSource(11))
	for range 200 {
		var l []api.Pair
		for range r.Intn(40) {
			l = append(l, one(r.Intn(20)))
		}
		x := From(l)
		y := From(upTo(5, 5+r.Intn(40)))
		joined, paired := Join(x, one(r.Intn(20)), y), Pair(y, x, &meter.Meter{})
		if x.Size() != len(l) || joined.Size() != x.Size()+1+y.Size() || paired.Size() != x.Size()+y.Size() {
			t.Fatal("pairs were lost")
		}
		for _, z := range []*Tree{x, joined, paired, Pair(x, x, nil), Join(joined, one(0), joined)} {
			for i := range 20 {
				z.Get(one(i).Key, nil)
				z = z.Put(one(i), nil)
				z, _ = z.Delete(one(r.Intn(20)).Key, nil)
				z.Sound()
			}
			if len(z.List()) != z.Size() {
				t.Fatal("the list hasn't as many pairs as the size")
			}
		}
	}
}

// P11.1: a Tree that nobody filled is a node with the empty pair: no call of it panics.
func TestZeroTree(t *testing.T) {
	x := new(Tree)
	isTreeOf(t, "it", x, []api.Pair{{}})
	isTreeOf(t, "Put", x.Put(one(1), nil), []api.Pair{{}, one(1)})
	if y, ok := x.Delete(nil, nil); !ok || y != nil {
		t.Error("Delete:", y, ok)
	}
}
