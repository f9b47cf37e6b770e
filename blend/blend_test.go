package blend

import (
	"bytes"
	"math/rand"
	"slices"
	"sort"
	"strings"
	"testing"

	"brushwood/api"
	"brushwood/tree"
)

// one is the pair of a number: keys rise with it. Its value begins with a mark, that tells whose it is; every fifth value is empty, another fifth of them for each mark.
func one(i int, mark byte) api.Pair {
	p := api.Pair{Key: []byte{byte(i >> 16), byte(i >> 8), byte(i)}}
	if (i+int(mark))%5 != 0 {
		p.Value = []byte{mark, byte(i), byte(i >> 8)}
	}
	return p
}

// numbered is the pairs of these numbers, which rise.
func numbered(mark byte, numbers ...int) []api.Pair {
	var l []api.Pair
	for _, i := range numbers {
		l = append(l, one(i, mark))
	}
	return l
}

// stepped is the pairs of n numbers: from the first one on, each so many after the one ahead.
func stepped(mark byte, n, first, by int) []api.Pair {
	var l []api.Pair
	for i := range n {
		l = append(l, one(first+i*by, mark))
	}
	return l
}

// some is the pairs of those numbers below n that fall to it: one of so many.
func some(r *rand.Rand, mark byte, n, oneOf int) []api.Pair {
	var l []api.Pair
	for i := range n {
		if r.Intn(oneOf) == 0 {
			l = append(l, one(i, mark))
		}
	}
	return l
}

func pairOf(key, value string) api.Pair {
	return api.Pair{Key: []byte(key), Value: []byte(value)}
}

// spelled is pairs by a text: each a key, a colon, and its value, with a comma between two; - is no pairs.
func spelled(text string) []api.Pair {
	if text == "-" {
		return nil
	}
	var l []api.Pair
	for _, word := range strings.Split(text, ",") {
		key, value, _ := strings.Cut(word, ":")
		l = append(l, pairOf(key, value))
	}
	return l
}

// spelling is a list as spelled reads it.
func spelling(l []api.Pair) string {
	if len(l) == 0 {
		return "-"
	}
	var words []string
	for _, p := range l {
		words = append(words, string(p.Key)+":"+string(p.Value))
	}
	return strings.Join(words, ",")
}

func samePair(a, b api.Pair) bool {
	return string(a.Key) == string(b.Key) && string(a.Value) == string(b.Value)
}

func samePairs(a, b []api.Pair) bool { return slices.EqualFunc(a, b, samePair) }

// evenSizes is layer 10's sentence on two sizes.
func evenSizes(l, r int) bool { return l+1 <= 3*(r+1) && r+1 <= 3*(l+1) }

// measured goes through a tree by its faces, and tells its pairs in order, and whether it is even and its sizes are right.
func measured(x *tree.Tree) ([]api.Pair, bool) {
	if x == nil {
		return nil, true
	}
	left, leftGood := measured(x.Left())
	right, rightGood := measured(x.Right())
	good := leftGood && rightGood && evenSizes(len(left), len(right)) && x.Size() == len(left)+1+len(right)
	return append(append(left, x.Root()), right...), good
}

// isTreeOf fails, if x isn't a sound tree of just these pairs, which are sorted. That their keys rise makes the tree's own rise, too.
func isTreeOf(t *testing.T, what string, x *tree.Tree, want []api.Pair) {
	t.Helper()
	l, good := measured(x)
	if !samePairs(l, want) {
		t.Fatalf("%s: %v, not %v", what, l, want)
	}
	if !good || !x.Sound() {
		t.Fatalf("%s: not sound, of %d pairs", what, len(want))
	}
}

// fingerprint is a tree's pairs, and how they hang together.
func fingerprint(x *tree.Tree) string {
	if x == nil {
		return "."
	}
	p := x.Root()
	return "(" + fingerprint(x.Left()) + string(p.Key) + "=" + string(p.Value) + fingerprint(x.Right()) + ")"
}

// listOf is a map's pairs, sorted.
func listOf(there map[string]string) []api.Pair {
	var l []api.Pair
	for k, v := range there {
		l = append(l, pairOf(k, v))
	}
	slices.SortFunc(l, func(a, b api.Pair) int { return bytes.Compare(a.Key, b.Key) })
	return l
}

// mapOf is the pairs of lists as a map: of one key the last value counts.
func mapOf(lists ...[]api.Pair) map[string]string {
	there := map[string]string{}
	for _, l := range lists {
		for _, p := range l {
			there[string(p.Key)] = string(p.Value)
		}
	}
	return there
}

// sifted is what of a list has a key that the other one has, and what hasn't.
func sifted(l, other []api.Pair) (in, out []api.Pair) {
	there := mapOf(other)
	for _, p := range l {
		if _, ok := there[string(p.Key)]; ok {
			in = append(in, p)
		} else {
			out = append(out, p)
		}
	}
	return in, out
}

// tellsOneWay holds the five calls of a and b, in this order, against the chapter's sentences of their lists.
func tellsOneWay(t *testing.T, what string, a, b *tree.Tree, la, lb []api.Pair) {
	t.Helper()
	both, minus := sifted(la, lb)
	_, others := sifted(lb, la)
	isTreeOf(t, what+": Union", Union(a, b), listOf(mapOf(la, lb)))
	isTreeOf(t, what+": Minus", Minus(a, b), minus)
	isTreeOf(t, what+": Both", Both(a, b), both)
	isTreeOf(t, what+": Odd", Odd(a, b), listOf(mapOf(minus, others)))
	if Subset(a, b) != (len(minus) == 0) {
		t.Fatalf("%s: Subset of %d pairs in %d: %v", what, len(la), len(lb), Subset(a, b))
	}
}

// ownPairs holds P14.2's sentences on one tree against its list.
func ownPairs(t *testing.T, what string, a *tree.Tree, la []api.Pair) {
	t.Helper()
	isTreeOf(t, what+": Union with nothing", Union(a, nil), la)
	isTreeOf(t, what+": Union of nothing with it", Union(nil, a), la)
	isTreeOf(t, what+": Union with itself", Union(a, a), la)
}

// makesUp holds P14.2's sentence on Minus and Both: each pair of a is in just one of them, and nothing else is.
func makesUp(t *testing.T, what string, a, b *tree.Tree, la []api.Pair) {
	t.Helper()
	l := append(Minus(a, b).List(), Both(a, b).List()...)
	slices.SortFunc(l, func(p, q api.Pair) int { return bytes.Compare(p.Key, q.Key) })
	if !samePairs(l, la) {
		t.Fatalf("%s: Minus and Both: %v, not %v", what, l, la)
	}
}

// tells fails, if one of the five calls tells something of a and b, or of b and a, that their lists don't say, or if one of them doesn't stay as it is.
func tells(t *testing.T, what string, a, b *tree.Tree, la, lb []api.Pair) {
	t.Helper()
	before, otherBefore := fingerprint(a), fingerprint(b)
	tellsOneWay(t, what, a, b, la, lb)
	tellsOneWay(t, what+", turned about", b, a, lb, la)
	makesUp(t, what, a, b, la)
	makesUp(t, what+", turned about", b, a, lb)
	if fingerprint(a) != before || fingerprint(b) != otherBefore {
		t.Fatalf("%s: a tree that was handed in is another one", what)
	}
}

// tellsAlone is tells of a tree with nothing, with itself, and with another one that has the same pairs.
func tellsAlone(t *testing.T, what string, a *tree.Tree, la []api.Pair) {
	t.Helper()
	before := fingerprint(a)
	ownPairs(t, what, a, la)
	tells(t, what+", with nothing", a, nil, la, nil)
	tells(t, what+", with itself", a, a, la, la)
	tells(t, what+", with one of its pairs", a, tree.From(la), la, la)
	if fingerprint(a) != before {
		t.Fatalf("%s: the tree that was handed in is another one", what)
	}
}

// tellsLists is tells of trees of two lists.
func tellsLists(t *testing.T, what string, la, lb []api.Pair) {
	t.Helper()
	tells(t, what, tree.From(la), tree.From(lb), la, lb)
}

// allShapes is every even tree of a sorted list: Join of two that are even lays no node anew.
func allShapes(l []api.Pair) []*tree.Tree {
	if len(l) == 0 {
		return []*tree.Tree{nil}
	}
	var all []*tree.Tree
	for k := range l {
		if !evenSizes(k, len(l)-1-k) {
			continue
		}
		for _, left := range allShapes(l[:k]) {
			for _, right := range allShapes(l[k+1:]) {
				all = append(all, tree.Join(left, l[k], right))
			}
		}
	}
	return all
}

// shares are ways to lay an even tree of n pairs: how many of them lie on the left.
func shares(r *rand.Rand) []func(n int) int {
	least := func(n int) int { return sort.Search(n, func(l int) bool { return evenSizes(l, n-1-l) }) }
	return []func(n int) int{
		func(n int) int { return n - 1 - least(n) },
		least,
		func(n int) int {
			if n%2 == 0 {
				return least(n)
			}
			return n - 1 - least(n)
		},
		func(n int) int { return least(n) + r.Intn(n-2*least(n)) },
	}
}

// shaped is a tree of a sorted list, joined of such shares.
func shaped(l []api.Pair, share func(n int) int) *tree.Tree {
	if len(l) == 0 {
		return nil
	}
	k := share(len(l))
	return tree.Join(shaped(l[:k], share), l[k], shaped(l[k+1:], share))
}

// P14.1: the chapter's example.
func TestExample(t *testing.T) {
	a, b := tree.From(spelled("a:1,b:1")), tree.From(spelled("b:2,c:2"))
	isTreeOf(t, "Union", Union(a, b), spelled("a:1,b:2,c:2"))
}

// P14.1: each call, spelled out by hand.
func TestByHand(t *testing.T) {
	for _, c := range []struct {
		name                          string
		a, b, union, minus, both, odd string
		subset                        bool
	}{
		{"nothing at both sides", "-", "-", "-", "-", "-", "-", true},
		{"nothing at the left", "-", "a:1,b:2", "a:1,b:2", "-", "-", "a:1,b:2", true},
		{"nothing at the right", "a:1,b:2", "-", "a:1,b:2", "a:1,b:2", "-", "a:1,b:2", false},
		{"one pair each, one key", "a:1", "a:2", "a:2", "-", "a:1", "-", true},
		{"one pair each, the first one less", "a:1", "b:2", "a:1,b:2", "a:1", "-", "a:1,b:2", false},
		{"one pair each, the first one more", "b:1", "a:2", "a:2,b:1", "b:1", "-", "a:2,b:1", false},
		{"no key alike, all ahead", "a:1,b:1", "c:2,d:2", "a:1,b:1,c:2,d:2", "a:1,b:1", "-", "a:1,b:1,c:2,d:2", false},
		{"no key alike, all behind", "c:1,d:1", "a:2,b:2", "a:2,b:2,c:1,d:1", "c:1,d:1", "-", "a:2,b:2,c:1,d:1", false},
		{"no key alike, all in a gap", "b:1,c:1", "a:2,d:2", "a:2,b:1,c:1,d:2", "b:1,c:1", "-", "a:2,b:1,c:1,d:2", false},
		{"no key alike, in turn", "a:1,c:1", "b:2,d:2", "a:1,b:2,c:1,d:2", "a:1,c:1", "-", "a:1,b:2,c:1,d:2", false},
		{"some keys alike", "a:1,b:1,d:1", "b:2,c:2,d:2", "a:1,b:2,c:2,d:2", "a:1", "b:1,d:1", "a:1,c:2", false},
		{"all keys alike, values not", "a:1,b:1", "a:2,b:2", "a:2,b:2", "-", "a:1,b:1", "-", true},
		{"a part", "b:1", "a:2,b:2,c:2", "a:2,b:2,c:2", "-", "b:1", "a:2,c:2", true},
		{"one key more", "a:1,b:1,c:1", "a:2,b:2", "a:2,b:2,c:1", "c:1", "a:1,b:1", "c:1", false},
		{"one key other", "a:1,b:1,c:1", "a:2,b:2,d:2", "a:2,b:2,c:1,d:2", "c:1", "a:1,b:1", "c:1,d:2", false},
		{"an empty value at the left", "a:,b:1", "a:2", "a:2,b:1", "b:1", "a:", "b:1", false},
		{"an empty value at the right", "a:1,b:1", "a:", "a:,b:1", "b:1", "a:1", "b:1", false},
		{"an empty value at both", "a:,b:", "a:,c:", "a:,b:,c:", "b:", "a:", "b:,c:", false},
		{"the empty key at the left", ":1,b:1", "b:2", ":1,b:2", ":1", "b:1", ":1", false},
		{"the empty key at the right", "b:1", ":2,b:2", ":2,b:2", "-", "b:1", ":2", true},
		{"the empty key at both", ":1,b:1", ":2,c:2", ":2,b:1,c:2", "b:1", ":1", "b:1,c:2", false},
		{"the empty key alone, and an empty value", ":", ":2", ":2", "-", ":", "-", true},
		{"keys that begin like others", "a:1,abc:1", "ab:2,abcd:2", "a:1,ab:2,abc:1,abcd:2", "a:1,abc:1", "-", "a:1,ab:2,abc:1,abcd:2", false},
		{"keys that begin alike, and one alike", "a:1,ab:1", "ab:2,ab\x00:2", "a:1,ab:2,ab\x00:2", "a:1", "ab:1", "a:1,ab\x00:2", false},
	} {
		a, b := tree.From(spelled(c.a)), tree.From(spelled(c.b))
		isTreeOf(t, c.name+": Union", Union(a, b), spelled(c.union))
		isTreeOf(t, c.name+": Minus", Minus(a, b), spelled(c.minus))
		isTreeOf(t, c.name+": Both", Both(a, b), spelled(c.both))
		isTreeOf(t, c.name+": Odd", Odd(a, b), spelled(c.odd))
		if Subset(a, b) != c.subset {
			t.Errorf("%s: Subset: %v", c.name, Subset(a, b))
		}
		if spelling(a.List()) != c.a || spelling(b.List()) != c.b {
			t.Errorf("%s: %q, %q are left", c.name, spelling(a.List()), spelling(b.List()))
		}
	}
}

// P14.1, P14.2: nothing, in whatever way it came to be, at either side and at both.
func TestNothing(t *testing.T) {
	gone, _ := tree.From(stepped('a', 1, 0, 1)).Delete(one(0, 'a').Key, nil)
	for _, x := range []*tree.Tree{nil, tree.From(nil), gone} {
		for _, y := range []*tree.Tree{nil, tree.From(nil), gone} {
			if Union(x, y) != nil || Minus(x, y) != nil || Both(x, y) != nil || Odd(x, y) != nil || !Subset(x, y) {
				t.Error("nothing and nothing have something")
			}
		}
		for n := range 40 {
			l := stepped('a', n, 1, 2)
			tells(t, "nothing", x, tree.From(l), nil, l)
			ownPairs(t, "beside nothing", tree.From(l), l)
		}
	}
}

// P14.1, P14.2: one pair at either side: with an ordinary key, the empty one, the least and a long one, and with an empty value.
func TestOnePair(t *testing.T) {
	long := bytes.Repeat([]byte{0xff}, api.MaxKey)
	all := []api.Pair{pairOf("k", "v"), pairOf("k", "w"), pairOf("k", ""), pairOf("kk", "v"), pairOf("", ""), pairOf("", "v"), {}, pairOf("\x00", ""), {Key: long, Value: bytes.Repeat([]byte("v"), api.MaxValue)}, {Key: long}, {Key: long[1:]}}
	for _, p := range all {
		l := []api.Pair{p}
		tellsAlone(t, "one pair", tree.From(l), l)
		for _, q := range all {
			tellsLists(t, "one pair each", l, []api.Pair{q})
		}
	}
	l := stepped('b', 30, 1, 2)
	x := tree.From(l)
	for i := range 62 {
		alone := numbered('a', i)
		tells(t, "one pair and many", tree.From(alone), x, alone, l)
	}
}

// P14.1, P14.2: each even tree of few pairs with each other one: all ways in which their keys can stand to each other.
func TestEveryShape(t *testing.T) {
	const n = 5
	for chosen := range 1 << n {
		for otherChosen := range 1 << n {
			la, lb := picked('a', n, chosen), picked('b', n, otherChosen)
			for _, a := range allShapes(la) {
				for _, b := range allShapes(lb) {
					tells(t, "each shape", a, b, la, lb)
				}
			}
		}
	}
}

// picked is the pairs of those numbers below n whose bits are set.
func picked(mark byte, n, chosen int) []api.Pair {
	var l []api.Pair
	for i := range n {
		if chosen>>i&1 == 1 {
			l = append(l, one(i, mark))
		}
	}
	return l
}

// P14.1, P14.2: keys that begin like others, the empty key, and bytes of all kinds, with unlike values.
func TestOddKeys(t *testing.T) {
	words := []string{"", "\x00", "\x00\x00", "a", "a\x00", "a\x00\x00", "ab", "abc", "a\xff", "a\xff\xff", "b", "\x7f", "\x80", "\xff", "\xff\xff"}
	r := rand.New(rand.NewSource(1))
	for range 1500 {
		var la, lb []api.Pair
		for _, w := range words {
			if r.Intn(2) == 0 {
				la = append(la, pairOf(w, []string{"", "a", "aa"}[r.Intn(3)]))
			}
			if r.Intn(3) > 0 {
				lb = append(lb, pairOf(w, []string{"", "b", "a"}[r.Intn(3)]))
			}
		}
		tellsLists(t, "odd keys", la, lb)
	}
}

// P14.1: how two trees' keys may lie to each other, and how many of them there may be, of many sizes.
func TestHowTheyLie(t *testing.T) {
	sizes := []int{1, 2, 3, 4, 5, 7, 10, 16, 31, 64, 100, 255, 400}
	for _, n := range sizes {
		for _, k := range sizes {
			la := stepped('a', n, 1000, 2)
			for name, lb := range map[string][]api.Pair{
				"ahead":                 stepped('b', k, 1000-2*k, 2),
				"ahead, and one alike":  stepped('b', k, 1002-2*k, 2),
				"behind":                stepped('b', k, 1000+2*n, 2),
				"behind, and one alike": stepped('b', k, 998+2*n, 2),
				"between":               stepped('b', k, 1001, 2),
				"alike":                 stepped('b', k, 1000, 2),
				"in the midst":          stepped('b', k, 1000+n/3*2, 2),
				"half of them alike":    stepped('b', k, 1000, 1),
				"wide apart":            stepped('b', k, 1, 97),
				"far behind":            stepped('b', k, 100000, 1),
			} {
				tellsLists(t, name, la, lb)
			}
		}
	}
	gap := append(stepped('a', 200, 0, 2), stepped('a', 200, 10000, 2)...)
	for _, k := range sizes {
		tellsLists(t, "all in one gap", gap, stepped('b', k, 5000, 3))
		tellsLists(t, "around one gap", gap, stepped('b', k, 390, 30))
	}
}

// P14.1, P14.2: trees of From, of each size, with itself, with nothing, and with one of any other size.
func TestEachSize(t *testing.T) {
	r := rand.New(rand.NewSource(2))
	for n := range 320 {
		la := stepped('a', n, 0, 2)
		a := tree.From(la)
		tellsAlone(t, "From", a, la)
		lb := some(r, 'b', 1+r.Intn(2*n+20), 1+r.Intn(6))
		tells(t, "From", a, tree.From(lb), la, lb)
	}
}

// P14.1: one tree far greater than the other one.
func TestFarGreater(t *testing.T) {
	r := rand.New(rand.NewSource(3))
	great := stepped('a', 3000, 1, 2)
	for k := range 12 {
		numbers := r.Perm(6002)[:k]
		slices.Sort(numbers)
		tellsLists(t, "far greater", great, numbered('b', numbers...))
	}
}

// P14.1: Subset of nothing, of each part, of the tree itself, of one with other values, and of trees with one key more or one other.
func TestSubset(t *testing.T) {
	r := rand.New(rand.NewSource(4))
	for n := 1; n < 300; n += 1 + n/6 {
		l := stepped('b', n, 1, 2)
		b := tree.From(l)
		if !Subset(nil, b) || !Subset(b, b) || Subset(b, nil) || !Subset(tree.From(stepped('a', n, 1, 2)), b) {
			t.Fatal("Subset:", n)
		}
		for i := range n {
			less, _ := b.Delete(l[i].Key, nil)
			other := less.Put(one(2*r.Intn(n+1), 'a'), nil)
			if !Subset(less, b) || Subset(b, less) || Subset(other, b) || Subset(b, other) {
				t.Fatal("Subset, without one, and with another one:", n, i)
			}
			more := b.Put(one(2*i, 'a'), nil)
			if Subset(more, b) || !Subset(b, more) {
				t.Fatal("Subset, with one more:", n, i)
			}
			if changed := b.Put(api.Pair{Key: l[i].Key, Value: []byte("other")}, nil); !Subset(changed, b) || !Subset(b, changed) {
				t.Fatal("Subset, with another value:", n, i)
			}
		}
	}
}

// P14.1, P14.2: trees as uneven as they may be, to the left, to the right, to and fro, and at random, each with each.
func TestUneven(t *testing.T) {
	r := rand.New(rand.NewSource(5))
	for _, share := range shares(r) {
		for _, otherShare := range shares(r) {
			for n := 1; n < 320; n += 1 + n/6 {
				la, lb := some(r, 'a', n, 2), some(r, 'b', 2*n, 1+r.Intn(4))
				a := shaped(la, share)
				tells(t, "uneven", a, shaped(lb, otherShare), la, lb)
				ownPairs(t, "uneven", a, la)
			}
		}
	}
}

// version is a tree that Put and Delete led to, and its pairs.
type version struct {
	tree *tree.Tree
	list []api.Pair
}

// history is the trees on the way up, by Put in that order, and on the way down again, by Delete in the other one.
func history(mark byte, puts, deletes []int) []version {
	var x *tree.Tree
	var all []version
	there := map[string]string{}
	for _, i := range puts {
		p := one(i, mark)
		x, there[string(p.Key)] = x.Put(p, nil), string(p.Value)
		all = append(all, version{x, listOf(there)})
	}
	for _, i := range deletes {
		key := one(i, mark).Key
		x, _ = x.Delete(key, nil)
		delete(there, string(key))
		all = append(all, version{x, listOf(there)})
	}
	return all
}

// P14.1, P14.2: trees that Put and then Delete led to, in order, turned about, and at random, each with an earlier version, and with one of another history.
func TestPutAndDelete(t *testing.T) {
	const n = 90
	r := rand.New(rand.NewSource(6))
	rising := make([]int, n)
	for i := range rising {
		rising[i] = i
	}
	falling := slices.Clone(rising)
	slices.Reverse(falling)
	other := history('b', r.Perm(2*n), r.Perm(n))
	for _, puts := range [][]int{rising, falling, r.Perm(n)} {
		for _, deletes := range [][]int{rising, falling, r.Perm(n)} {
			own := history('a', puts, deletes)
			for i, v := range own {
				earlier, foreign := own[r.Intn(i+1)], other[r.Intn(len(other))]
				tells(t, "an earlier version", v.tree, earlier.tree, v.list, earlier.list)
				tells(t, "another history", v.tree, foreign.tree, v.list, foreign.list)
				ownPairs(t, "a version", v.tree, v.list)
			}
		}
	}
}

// P14.1, P14.2: what was told is made one with others again, and changed by Put and Delete, with keys of unlike lengths that often begin alike, and stays sound.
func TestAgain(t *testing.T) {
	for seed := range 6 {
		r := rand.New(rand.NewSource(int64(20 + seed)))
		all := []version{{}, {}}
		for step := range 250 {
			v, w := all[r.Intn(len(all))], all[r.Intn(len(all))]
			tells(t, "again", v.tree, w.tree, v.list, w.list)
			next := blended(r, v, w)
			for range r.Intn(30) {
				next = changed(r, next, step)
			}
			isTreeOf(t, "again", next.tree, next.list)
			all = append(all, next)
		}
	}
}

// blended is two versions made one, in one of the four ways.
func blended(r *rand.Rand, v, w version) version {
	both, minus := sifted(v.list, w.list)
	_, others := sifted(w.list, v.list)
	switch r.Intn(4) {
	case 0:
		return version{Union(v.tree, w.tree), listOf(mapOf(v.list, w.list))}
	case 1:
		return version{Minus(v.tree, w.tree), minus}
	case 2:
		return version{Both(v.tree, w.tree), both}
	}
	return version{Odd(v.tree, w.tree), listOf(mapOf(minus, others))}
}

// changed is a version with a pair more, or without one.
func changed(r *rand.Rand, v version, step int) version {
	key := make([]byte, r.Intn(5))
	for i := range key {
		key[i] = []byte{0, 1, 'a', 0xff}[r.Intn(4)]
	}
	there := mapOf(v.list)
	if r.Intn(4) == 0 {
		x, _ := v.tree.Delete(key, nil)
		delete(there, string(key))
		return version{x, listOf(there)}
	}
	value := []byte{byte(step), byte(step >> 8)}[:r.Intn(3)]
	there[string(key)] = string(value)
	return version{v.tree.Put(api.Pair{Key: key, Value: value}, nil), listOf(there)}
}

// P14.1, P14.2: trees with as many pairs as a map may have.
func TestMaxPairs(t *testing.T) {
	const n = api.MaxPairs
	la := stepped('a', n, 0, 1)
	a, few := tree.From(la), tree.From(stepped('b', 1000, 1, 1001))
	if u := Union(a, few); u.Size() != n {
		t.Error("Union with few:", u.Size())
	}
	if x := Minus(a, few); x.Size() != n-1000 || Both(a, few).Size() != 1000 || Both(few, a).Size() != 1000 || Minus(few, a) != nil {
		t.Error("Minus and Both with few:", x.Size())
	}
	if !Subset(few, a) || Subset(a, few) || !Subset(a, a) || Odd(a, few).Size() != n-1000 || Odd(a, a) != nil {
		t.Error("Subset and Odd")
	}
	half := stepped('b', n/2, 1, 2)
	b := tree.From(half)
	in, out := sifted(la, half)
	all := slices.Clone(la)
	for i, p := range half {
		all[2*i+1] = p
	}
	minus := Minus(a, b)
	isTreeOf(t, "Minus", minus, out)
	isTreeOf(t, "Both", Both(a, b), in)
	isTreeOf(t, "Odd", Odd(b, a), out)
	isTreeOf(t, "Union", Union(minus, b), all)
	isTreeOf(t, "the tree", a, la)
}

// overwrite writes over bytes, and over what lies behind their length.
func overwrite(lists ...[]byte) {
	for _, b := range lists {
		b = b[:cap(b)]
		for i := range b {
			b[i] = 0xee
		}
	}
}

// P14.1: what is told may be written over, and no tree changes, neither one that was told nor one that was handed in.
func TestNothingToldIsKept(t *testing.T) {
	r := rand.New(rand.NewSource(7))
	for n := 1; n < 120; n += 3 {
		la, lb := some(r, 'a', n, 2), some(r, 'b', n, 2)
		a, b := tree.From(la), tree.From(lb)
		before := fingerprint(a) + fingerprint(b)
		both, minus := sifted(la, lb)
		_, others := sifted(lb, la)
		told := []version{{Union(a, b), listOf(mapOf(la, lb))}, {Minus(a, b), minus}, {Both(a, b), both}, {Odd(a, b), listOf(mapOf(minus, others))}}
		for _, v := range told {
			for _, p := range append(v.tree.List(), v.tree.Root()) {
				overwrite(p.Key, p.Value)
			}
		}
		for _, v := range told {
			isTreeOf(t, "written over", v.tree, v.list)
		}
		if fingerprint(a)+fingerprint(b) != before {
			t.Fatal("a tree that was handed in changed:", n)
		}
		tells(t, "written over", a, b, la, lb)
	}
}

// P14.1: what is told later changes no tree that was told earlier.
func TestToldTreesStay(t *testing.T) {
	r := rand.New(rand.NewSource(8))
	la, lb := some(r, 'a', 300, 2), some(r, 'b', 300, 3)
	a, b := tree.From(la), tree.From(lb)
	told := []*tree.Tree{a, b, Union(a, b), Minus(a, b), Both(a, b), Odd(a, b)}
	var before []string
	for _, x := range told {
		before = append(before, fingerprint(x))
	}
	for _, x := range told {
		for _, y := range told {
			Union(x, y).Put(one(7, 'c'), nil)
			Minus(x, y).Delete(one(8, 'a').Key, nil)
			Both(x, y).Put(one(9, 'c'), nil)
			Odd(x, y).Delete(one(10, 'a').Key, nil)
			Subset(x, y)
		}
	}
	for i, x := range told {
		if fingerprint(x) != before[i] {
			t.Error("another one:", i)
		}
	}
}

// P1: where trees that aren't sound are handed in, there is an end, and no panic.
func TestUnsound(t *testing.T) {
	r := rand.New(rand.NewSource(9))
	for range 300 {
		var trees []*tree.Tree
		for range 2 {
			var l []api.Pair
			for range r.Intn(40) {
				l = append(l, one(r.Intn(30), 'a'))
			}
			trees = append(trees, tree.From(l))
		}
		a, b := trees[0], trees[1]
		for _, x := range []*tree.Tree{Union(a, b), Minus(a, b), Both(a, b), Odd(a, b)} {
			x.List()
		}
		Subset(a, b)
	}
}
