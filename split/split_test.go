package split

import (
	"bytes"
	"math/rand"
	"slices"
	"sort"
	"strings"
	"testing"

	"brushwood/api"
	"brushwood/keys"
	"brushwood/tree"
)

// one is the pair of a number: keys rise with it, and every fifth value is empty.
func one(i int) api.Pair {
	p := api.Pair{Key: []byte{byte(i >> 16), byte(i >> 8), byte(i)}}
	if i%5 != 0 {
		p.Value = []byte{'v', byte(i), byte(i >> 8)}
	}
	return p
}

// odd is the pairs of the first n odd numbers: so that there is a key between any two, and at each end.
func odd(n int) []api.Pair {
	var l []api.Pair
	for i := range n {
		l = append(l, one(2*i+1))
	}
	return l
}

func pairOf(key, value string) api.Pair {
	return api.Pair{Key: []byte(key), Value: []byte(value)}
}

// named is a pair for each word: its key is the word, and its value the word in capitals.
func named(words ...string) []api.Pair {
	var l []api.Pair
	for _, w := range words {
		l = append(l, pairOf(w, strings.ToUpper(w)))
	}
	return l
}

func open(from string) keys.Span { return keys.Span{From: []byte(from)} }

func closed(from, to string) keys.Span {
	return keys.Span{From: []byte(from), To: []byte(to), Closed: true}
}

func samePair(a, b api.Pair) bool {
	return string(a.Key) == string(b.Key) && string(a.Value) == string(b.Value)
}

func samePairs(a, b []api.Pair) bool { return slices.EqualFunc(a, b, samePair) }

// evenSizes is layer 10's sentence on two sizes.
func evenSizes(l, r int) bool { return l+1 <= 3*(r+1) && r+1 <= 3*(l+1) }

// measured goes through a tree by its faces, and tells its pairs in order, and whether it is even and its sizes are right.
func measured(x *tree.Tree) ([]api.Pair, bool) {
	if x == nil {
		return nil, true
	}
	left, leftGood := measured(x.Left())
	right, rightGood := measured(x.Right())
	good := leftGood && rightGood && evenSizes(len(left), len(right)) && x.Size() == len(left)+1+len(right)
	return append(append(left, x.Root()), right...), good
}

// isTreeOf fails, if x isn't a sound tree of just these pairs, which are sorted. That their keys rise makes the tree's own rise, too.
func isTreeOf(t *testing.T, what string, x *tree.Tree, want []api.Pair) {
	t.Helper()
	l, good := measured(x)
	if !samePairs(l, want) {
		t.Fatalf("%s: %v, not %v", what, l, want)
	}
	if !good || !x.Sound() {
		t.Fatalf("%s: not sound, of %d pairs", what, len(want))
	}
}

// fingerprint is a tree's pairs, and how they hang together.
func fingerprint(x *tree.Tree) string {
	if x == nil {
		return "."
	}
	p := x.Root()
	return "(" + fingerprint(x.Left()) + string(p.Key) + "=" + string(p.Value) + fingerprint(x.Right()) + ")"
}

// sorted puts each pair of a list ahead of a key, at it, or behind it.
func sorted(l []api.Pair, key []byte) (less, at, more []api.Pair) {
	for _, p := range l {
		switch {
		case string(p.Key) < string(key):
			less = append(less, p)
		case string(p.Key) > string(key):
			more = append(more, p)
		default:
			at = append(at, p)
		}
	}
	return less, at, more
}

// cutsAt holds what At tells of a key against a list, which has just the pairs of x.
func cutsAt(t *testing.T, what string, x *tree.Tree, l []api.Pair, key []byte) {
	t.Helper()
	less, at, more := sorted(l, key)
	left, right, value, ok := At(x, key)
	isTreeOf(t, what+": At: less", left, less)
	isTreeOf(t, what+": At: more", right, more)
	if ok != (len(at) == 1) || !ok && value != nil || ok && string(value) != string(at[0].Value) {
		t.Fatalf("%s: At of %q, of %d pairs: %q, %v", what, key, len(l), value, ok)
	}
}

// sifted is what of a list is in a stretch, by layer 3's sentence, and what isn't.
func sifted(l []api.Pair, s keys.Span) (in, out []api.Pair) {
	for _, p := range l {
		k := string(p.Key)
		if k >= string(s.From) && (!s.Closed || k < string(s.To)) {
			in = append(in, p)
		} else {
			out = append(out, p)
		}
	}
	return in, out
}

// cutsOut holds what Cut, Out and Count tell of a stretch against a list, which has just the pairs of x.
func cutsOut(t *testing.T, what string, x *tree.Tree, l []api.Pair, s keys.Span) {
	t.Helper()
	in, out := sifted(l, s)
	cut, others := Cut(x, s), Out(x, s)
	isTreeOf(t, what+": Cut", cut, in)
	isTreeOf(t, what+": Out", others, out)
	if n := Count(x, s); n != len(in) || n != cut.Size() || n+others.Size() != len(l) {
		t.Fatalf("%s: Count of %v, of %d pairs: %d, not %d", what, s, len(l), n, len(in))
	}
}

// stretches are all that two bounds make: closed or not, and turned about.
func stretches(a, b []byte) []keys.Span {
	return []keys.Span{{From: a, To: b, Closed: true}, {From: b, To: a, Closed: true}, {From: a, To: b}, {From: b, To: a}, {From: a, To: a, Closed: true}, {From: a}}
}

// around is keys at and near a key: itself, two behind it, one that it begins with, and one a little less.
func around(key []byte) [][]byte {
	near := [][]byte{key, append(slices.Clone(key), 0), append(slices.Clone(key), 0xff)}
	if n := len(key); n > 0 {
		near = append(near, key[:n-1:n-1])
		if key[n-1] > 0 {
			near = append(near, append(slices.Clone(key[:n-1]), key[n-1]-1, 0xff))
		}
	}
	return near
}

// bounds are keys at and near those of a list, and outside of all.
func bounds(l []api.Pair) [][]byte {
	all := [][]byte{nil, {}, {0}, {0, 0, 0, 0}, []byte("a"), bytes.Repeat([]byte{0xff}, 9)}
	for _, p := range l {
		all = append(all, around(p.Key)...)
	}
	return all
}

// tells fails, if one of the four calls tells something of x that its list, which must be l, doesn't say, at some of the keys that are near; or if x doesn't stay as it is.
func tells(t *testing.T, what string, x *tree.Tree, l []api.Pair, r *rand.Rand, some int) {
	t.Helper()
	before := fingerprint(x)
	isTreeOf(t, what, x, l)
	near := bounds(l)
	for range some {
		a, b := near[r.Intn(len(near))], near[r.Intn(len(near))]
		cutsAt(t, what, x, l, a)
		for _, s := range append(stretches(a, b), keys.Of(a)) {
			cutsOut(t, what, x, l, s)
		}
	}
	if fingerprint(x) != before {
		t.Fatalf("%s: the tree that was handed in is another one", what)
	}
}

// tellsAll is tells of each key that is near, and of each stretch between two of them.
func tellsAll(t *testing.T, what string, x *tree.Tree, l []api.Pair) {
	t.Helper()
	before := fingerprint(x)
	isTreeOf(t, what, x, l)
	near := bounds(l)
	for _, a := range near {
		cutsAt(t, what, x, l, a)
		cutsOut(t, what, x, l, keys.Of(a))
		for _, b := range near {
			cutsOut(t, what, x, l, keys.Span{From: a, To: b, Closed: true})
			cutsOut(t, what, x, l, keys.Span{From: a, To: b})
		}
	}
	if fingerprint(x) != before {
		t.Fatalf("%s: the tree that was handed in is another one", what)
	}
}

// allShapes is every even tree of a sorted list: Join of two that are even lays no node anew.
func allShapes(l []api.Pair) []*tree.Tree {
	if len(l) == 0 {
		return []*tree.Tree{nil}
	}
	var all []*tree.Tree
	for k := range l {
		if !evenSizes(k, len(l)-1-k) {
			continue
		}
		for _, left := range allShapes(l[:k]) {
			for _, right := range allShapes(l[k+1:]) {
				all = append(all, tree.Join(left, l[k], right))
			}
		}
	}
	return all
}

// shares are ways to lay an even tree of n pairs: how many of them lie on the left.
func shares(r *rand.Rand) map[string]func(n int) int {
	least := func(n int) int { return sort.Search(n, func(l int) bool { return evenSizes(l, n-1-l) }) }
	return map[string]func(n int) int{
		"left":  func(n int) int { return n - 1 - least(n) },
		"right": least,
		"zag": func(n int) int {
			if n%2 == 0 {
				return least(n)
			}
			return n - 1 - least(n)
		},
		"any": func(n int) int { return least(n) + r.Intn(n-2*least(n)) },
	}
}

// shaped is a tree of a sorted list, joined of such shares.
func shaped(l []api.Pair, share func(n int) int) *tree.Tree {
	if len(l) == 0 {
		return nil
	}
	k := share(len(l))
	return tree.Join(shaped(l[:k], share), l[k], shaped(l[k+1:], share))
}

// P13.1: the chapter's example.
func TestExample(t *testing.T) {
	l := named("a", "b", "c")
	less, more, value, ok := At(tree.From(l), []byte("b"))
	isTreeOf(t, "less", less, l[:1])
	isTreeOf(t, "more", more, l[2:])
	if string(value) != "B" || !ok {
		t.Errorf("%q, %v", value, ok)
	}
}

// P13.1: of nothing each call tells nothing.
func TestNothing(t *testing.T) {
	gone, _ := tree.From(odd(1)).Delete(one(1).Key, nil)
	for name, x := range map[string]*tree.Tree{"nil": nil, "From of nothing": tree.From(nil), "its only pair deleted": gone} {
		for _, key := range bounds(nil) {
			if less, more, value, ok := At(x, key); less != nil || more != nil || value != nil || ok {
				t.Errorf("%s: At of %q: %v, %v, %q, %v", name, key, less, more, value, ok)
			}
			for _, s := range append(stretches(key, []byte("k")), keys.Of(key)) {
				if in, out, n := Cut(x, s), Out(x, s), Count(x, s); in != nil || out != nil || n != 0 {
					t.Errorf("%s: of %v: %v, %v, %d", name, s, in, out, n)
				}
			}
		}
	}
}

// P13.1: of one pair, with an ordinary key, the empty one, the least and a long one, and with an empty value.
func TestOnePair(t *testing.T) {
	for _, p := range []api.Pair{pairOf("k", "v"), pairOf("", ""), pairOf("", "v"), {}, pairOf("\x00", ""), {Key: bytes.Repeat([]byte{0xff}, api.MaxKey), Value: bytes.Repeat([]byte("v"), api.MaxValue)}} {
		l := []api.Pair{p}
		tellsAll(t, "From", tree.From(l), l)
		var none *tree.Tree
		tellsAll(t, "Put", none.Put(p, nil), l)
	}
	x := tree.From([]api.Pair{pairOf("k", "v")})
	for _, c := range []struct {
		key        string
		less, more int
	}{{"", 0, 1}, {"a", 0, 1}, {"j\xff", 0, 1}, {"k", 0, 0}, {"k\x00", 1, 0}, {"kk", 1, 0}, {"z", 1, 0}} {
		less, more, value, ok := At(x, []byte(c.key))
		if less.Size() != c.less || more.Size() != c.more || ok != (c.key == "k") || ok != (string(value) == "v") {
			t.Errorf("%q: %d, %d, %q, %v", c.key, less.Size(), more.Size(), value, ok)
		}
	}
}

// P13.1: At of keys that are there, with a value and with an empty one, that aren't, less and more than all, empty, no bytes, and that begin alike, counted by hand.
func TestAtByHand(t *testing.T) {
	l := []api.Pair{pairOf("ab", "1"), pairOf("abc", ""), pairOf("b", "3"), pairOf("b\x00", "4"), pairOf("d", "")}
	x := tree.From(l)
	for _, c := range []struct {
		key        string
		less, more int
		value      string
		ok         bool
	}{
		{"", 0, 5, "", false}, {"\x00", 0, 5, "", false}, {"a", 0, 5, "", false}, {"ab", 0, 4, "1", true}, {"ab\x00", 1, 4, "", false},
		{"abb", 1, 4, "", false}, {"abc", 1, 3, "", true}, {"abcd", 2, 3, "", false}, {"ac", 2, 3, "", false}, {"b", 2, 2, "3", true},
		{"b\x00", 3, 1, "4", true}, {"b\x00\x00", 4, 1, "", false}, {"c", 4, 1, "", false}, {"d", 4, 0, "", true}, {"d\x00", 5, 0, "", false}, {"\xff", 5, 0, "", false},
	} {
		less, more, value, ok := At(x, []byte(c.key))
		isTreeOf(t, "less", less, l[:c.less])
		isTreeOf(t, "more", more, l[len(l)-c.more:])
		if string(value) != c.value || ok != c.ok || !ok && value != nil {
			t.Errorf("%q: %q, %v", c.key, value, ok)
		}
	}
	y := x.Put(pairOf("", "0"), nil)
	for _, key := range [][]byte{nil, {}} {
		if less, more, _, ok := At(x, key); less != nil || more.Size() != 5 || ok {
			t.Error("no bytes, that aren't there:", less.Size(), more.Size(), ok)
		}
		if less, more, value, ok := At(y, key); less != nil || more.Size() != 5 || string(value) != "0" || !ok {
			t.Errorf("no bytes, that are there: %d, %d, %q, %v", less.Size(), more.Size(), value, ok)
		}
	}
}

// P13.1: stretches that aren't closed, that are empty, that have none, some, all, and whose bounds are keys that are there, and are not, by hand.
func TestStretchesByHand(t *testing.T) {
	x := tree.From(named("", "ab", "abc", "b", "bb", "d"))
	unmeant := keys.Span{From: []byte("b"), To: []byte("bb")}
	turned := keys.Span{From: []byte("b"), To: []byte("a")}
	for _, c := range []struct {
		name    string
		s       keys.Span
		in, out string // The keys, each with a comma behind it.
	}{
		{"all: no bounds at all", keys.Span{}, ",ab,abc,b,bb,d,", ""},
		{"all: closed behind the last one", closed("", "e"), ",ab,abc,b,bb,d,", ""},
		{"not closed, From is there", open("b"), "b,bb,d,", ",ab,abc,"},
		{"not closed, From isn't there", open("aba"), "abc,b,bb,d,", ",ab,"},
		{"not closed, from behind all", open("d\x00"), "", ",ab,abc,b,bb,d,"},
		{"not closed, To has no meaning", unmeant, "b,bb,d,", ",ab,abc,"},
		{"not closed, nor if To is less", turned, "b,bb,d,", ",ab,abc,"},
		{"closed, both are there", closed("ab", "bb"), "ab,abc,b,", ",bb,d,"},
		{"closed, both aren't there", closed("a", "c"), "ab,abc,b,bb,", ",d,"},
		{"closed, From alone is there", closed("abc", "c"), "abc,b,bb,", ",ab,d,"},
		{"closed, To alone is there", closed("a", "d"), "ab,abc,b,bb,", ",d,"},
		{"the empty key alone", closed("", "\x00"), ",", "ab,abc,b,bb,d,"},
		{"one key alone", closed("b", "b\x00"), "b,", ",ab,abc,bb,d,"},
		{"none of the tree's keys", closed("b\x00", "ba"), "", ",ab,abc,b,bb,d,"},
		{"empty: To is From", closed("b", "b"), "", ",ab,abc,b,bb,d,"},
		{"empty: To is From, and isn't there", closed("c", "c"), "", ",ab,abc,b,bb,d,"},
		{"empty: To is less", closed("bb", "ab"), "", ",ab,abc,b,bb,d,"},
		{"empty: both have no bytes", closed("", ""), "", ",ab,abc,b,bb,d,"},
		{"empty: To has no bytes", closed("b", ""), "", ",ab,abc,b,bb,d,"},
		{"what begins with ab", keys.Of([]byte("ab")), "ab,abc,", ",b,bb,d,"},
		{"what begins with b", keys.Of([]byte("b")), "b,bb,", ",ab,abc,d,"},
		{"what begins with no bytes", keys.Of(nil), ",ab,abc,b,bb,d,", ""},
		{"what begins with 255", keys.Of([]byte{0xff}), "", ",ab,abc,b,bb,d,"},
	} {
		in, out := Cut(x, c.s), Out(x, c.s)
		if joined(in) != c.in || joined(out) != c.out || Count(x, c.s) != in.Size() || !in.Sound() || !out.Sound() {
			t.Errorf("%s: %q, %q, %d", c.name, joined(in), joined(out), Count(x, c.s))
		}
	}
}

// joined is a tree's keys, each with a comma behind it.
func joined(x *tree.Tree) string {
	b := strings.Builder{}
	for _, p := range x.List() {
		b.WriteString(string(p.Key) + ",")
	}
	return b.String()
}

// P13.1: keys that begin alike, the empty key, bytes of all kinds, and all stretches of keys that begin with some bytes.
func TestOddKeys(t *testing.T) {
	l := []api.Pair{pairOf("", ""), pairOf("\x00", "\x00"), pairOf("\x00\x00", ""), pairOf("a", "b"), pairOf("a\x00", "\xff"), pairOf("a\x00\x00", "z"), pairOf("ab", "a"), pairOf("a\xff", "f"), pairOf("a\xff\xff", ""), pairOf("\x7f", "7"), pairOf("\x80", "8"), pairOf("\xff", ""), pairOf("\xff\xff", "z")}
	for k := range len(l) + 1 {
		tellsAll(t, "From", tree.From(l[k:]), l[k:])
		tellsAll(t, "From", tree.From(l[:k]), l[:k])
	}
}

// P13.1: each even tree of few pairs, cut at each key and by each stretch.
func TestEveryShape(t *testing.T) {
	for n := range 6 {
		for _, x := range allShapes(odd(n)) {
			tellsAll(t, "each shape", x, odd(n))
		}
	}
	for n := 6; n < 12; n++ {
		l := odd(n)
		for _, x := range allShapes(l) {
			for i := range 2*n + 2 {
				cutsAt(t, "each shape", x, l, one(i).Key)
				for _, s := range stretches(one(i).Key, one((i*7+3)%(2*n+2)).Key) {
					cutsOut(t, "each shape", x, l, s)
				}
			}
		}
	}
}

// P13.1: trees of From, of each size, at keys here and there; and those of some sizes at each key.
func TestEachSize(t *testing.T) {
	r := rand.New(rand.NewSource(1))
	for n := range 320 {
		l := odd(n)
		tells(t, "From", tree.From(l), l, r, 8)
	}
	for _, n := range []int{50, 127, 128, 129, 255, 300} {
		l := odd(n)
		x := tree.From(l)
		for i := range 2*n + 2 {
			cutsAt(t, "From", x, l, one(i).Key)
		}
	}
}

// P13.1: trees as uneven as they may be, to the left, to the right, to and fro, and at random.
func TestEachShape(t *testing.T) {
	r := rand.New(rand.NewSource(2))
	for name, share := range shares(r) {
		for n := 1; n < 320; n += 1 + n/8 {
			l := odd(n)
			x := shaped(l, share)
			tells(t, name, x, l, r, 12)
			for i := range 2*n + 2 {
				cutsAt(t, name, x, l, one(i).Key)
			}
		}
	}
}

// P13.1: trees that Put and then Delete led to, in order, turned about, and at random; earlier versions are cut like later ones.
func TestPutAndDelete(t *testing.T) {
	const n = 120
	r := rand.New(rand.NewSource(3))
	rising := make([]int, n)
	for i := range rising {
		rising[i] = i
	}
	falling := slices.Clone(rising)
	slices.Reverse(falling)
	for _, puts := range [][]int{rising, falling, r.Perm(n)} {
		for _, deletes := range [][]int{rising, falling, r.Perm(n)} {
			putAndDeleted(t, puts, deletes, r)
		}
	}
}

// putAndDeleted cuts each tree on the way up and on the way down again.
func putAndDeleted(t *testing.T, puts, deletes []int, r *rand.Rand) {
	t.Helper()
	var x *tree.Tree
	there := map[string]string{}
	for _, i := range puts {
		p := one(2*i + 1)
		x, there[string(p.Key)] = x.Put(p, nil), string(p.Value)
		tells(t, "Put", x, listOf(there), r, 4)
	}
	full, all := x, listOf(there)
	for _, i := range deletes {
		key := one(2*i + 1).Key
		x, _ = x.Delete(key, nil)
		delete(there, string(key))
		tells(t, "Delete", x, listOf(there), r, 4)
	}
	tells(t, "the earlier one", full, all, r, 20)
}

// listOf is a map's pairs, sorted.
func listOf(there map[string]string) []api.Pair {
	var l []api.Pair
	for k, v := range there {
		l = append(l, pairOf(k, v))
	}
	slices.SortFunc(l, func(a, b api.Pair) int { return bytes.Compare(a.Key, b.Key) })
	return l
}

// P13.1: Put and Delete mixed, of keys of unlike lengths that often begin alike, with values that change.
func TestMixed(t *testing.T) {
	for seed := range 8 {
		r := rand.New(rand.NewSource(int64(10 + seed)))
		var x *tree.Tree
		there := map[string]string{}
		for step := range 400 {
			key := make([]byte, r.Intn(5))
			for i := range key {
				key[i] = []byte{0, 1, 'a', 0xff}[r.Intn(4)]
			}
			if r.Intn(3) == 0 {
				x, _ = x.Delete(key, nil)
				delete(there, string(key))
			} else {
				value := []byte{byte(step), byte(step >> 8)}[:r.Intn(3)]
				x = x.Put(api.Pair{Key: key, Value: value}, nil)
				there[string(key)] = string(value)
			}
			if step%7 == 0 || step < 40 {
				tells(t, "mixed", x, listOf(there), r, 6)
			}
		}
		tells(t, "at the end", x, listOf(there), r, 40)
	}
}

// P13.1: what was cut is cut again, as deep as there are pairs, and what is told stays sound.
func TestCutAgain(t *testing.T) {
	r := rand.New(rand.NewSource(4))
	for n := 1; n < 300; n += 7 {
		l := odd(n)
		x := tree.From(l)
		for len(l) > 0 {
			key := one(r.Intn(2*n + 2)).Key
			s := stretches(key, one(r.Intn(2*n+2)).Key)[r.Intn(6)]
			tells(t, "cut again", x, l, r, 2)
			less, at, more := sorted(l, key)
			left, right, _, _ := At(x, key)
			in, out := sifted(l, s)
			switch r.Intn(4) {
			case 0:
				x, l = left, append(less, at...)
				if len(at) > 0 {
					x = x.Put(at[0], nil)
				}
			case 1:
				x, l = right, more
			case 2:
				x, l = Cut(x, s), in
			case 3:
				x, l = Out(x, s), out
			}
			// One is taken away, so that there is an end.
			if len(l) > 0 {
				x, _ = x.Delete(l[0].Key, nil)
				l = l[1:]
			}
		}
	}
}

// P13.1: a tree with as many pairs as a map may have, cut at its ends, in its middle, and at random.
func TestMaxPairs(t *testing.T) {
	const n = api.MaxPairs
	l := odd(n)
	x := tree.From(l)
	r := rand.New(rand.NewSource(5))
	for _, i := range append(r.Perm(n)[:300], 0, 1, n/2-1, n/2, n/2+1, n-2, n-1) {
		less, more, value, ok := At(x, one(2*i+1).Key)
		if less.Size() != i || more.Size() != n-1-i || !ok || string(value) != string(l[i].Value) {
			t.Fatal("At:", i, less.Size(), more.Size(), ok)
		}
		j := r.Intn(n + 1)
		s := keys.Span{From: one(2 * min(i, j)).Key, To: one(2 * max(i, j)).Key, Closed: true}
		in, out, count := Cut(x, s), Out(x, s), max(i, j)-min(i, j)
		if in.Size() != count || out.Size() != n-count || Count(x, s) != count {
			t.Fatal("stretch:", i, j, in.Size(), out.Size(), Count(x, s))
		}
	}
	s := keys.Span{From: l[1000].Key, To: l[n-1000].Key, Closed: true}
	isTreeOf(t, "Cut", Cut(x, s), l[1000:n-1000])
	isTreeOf(t, "Out", Out(x, s), append(slices.Clone(l[:1000]), l[n-1000:]...))
	less, more, _, _ := At(x, l[n/3].Key)
	isTreeOf(t, "less", less, l[:n/3])
	isTreeOf(t, "more", more, l[n/3+1:])
	isTreeOf(t, "the tree", x, l)
}

// overwrite writes over bytes, and over what lies behind their length.
func overwrite(lists ...[]byte) {
	for _, b := range lists {
		b = b[:cap(b)]
		for i := range b {
			b[i] = 0xee
		}
	}
}

// P13.1: what is told may be written over, and no tree changes.
func TestNothingToldIsKept(t *testing.T) {
	l := odd(60)
	x := tree.From(l)
	before := fingerprint(x)
	for i := range l {
		less, more, value, _ := At(x, l[i].Key)
		overwrite(append(value, "behind"...), value)
		isTreeOf(t, "less", less, l[:i])
		isTreeOf(t, "more", more, l[i+1:])
		s := keys.Span{From: l[i].Key, To: l[min(i+20, 59)].Key, Closed: true}
		in, out := sifted(l, s)
		cut, others := Cut(x, s), Out(x, s)
		for _, told := range []*tree.Tree{less, more, cut, others} {
			for _, p := range append(told.List(), told.Root()) {
				overwrite(p.Key, p.Value)
			}
		}
		isTreeOf(t, "Cut", cut, in)
		isTreeOf(t, "Out", others, out)
	}
	if fingerprint(x) != before {
		t.Error("the tree changed")
	}
	if _, _, value, ok := At(x, l[1].Key); !ok || string(value) != string(l[1].Value) {
		t.Errorf("a value that was written over is told: %q, %v", value, ok)
	}
}

// P13.1: the keys that are handed in are neither written into nor shared, and what lies behind their length isn't read.
func TestNothingHandedInIsTouched(t *testing.T) {
	l := []api.Pair{pairOf("a", "1"), pairOf("ab", "2"), pairOf("abc", "3"), pairOf("abcd", "4"), pairOf("b", "5")}
	x := tree.From(l)
	before := fingerprint(x)
	room, otherRoom := []byte("abcd"), []byte("abcd")
	for k := range len(room) + 1 {
		cutsAt(t, "with room behind it", x, l, room[:k])
		for n := range len(room) + 1 {
			for _, s := range stretches(room[:k], otherRoom[:n]) {
				cutsOut(t, "with room behind it", x, l, s)
			}
		}
		if string(room) != "abcd" || string(otherRoom) != "abcd" {
			t.Fatalf("written into: %q, %q", room, otherRoom)
		}
	}
	for _, from := range []string{"a", "ab", "abb", "b"} {
		for _, to := range []string{"a", "abc", "abca", "b", "c"} {
			unshared(t, x, l, from, to)
		}
	}
	if fingerprint(x) != before {
		t.Error("the tree changed")
	}
}

// unshared writes over the keys that were handed in, and fails, if that shows in a tree that was told.
func unshared(t *testing.T, x *tree.Tree, l []api.Pair, from, to string) {
	t.Helper()
	for _, isClosed := range []bool{false, true} {
		s := keys.Span{From: append(make([]byte, 0, 8), from...), To: append(make([]byte, 0, 8), to...), Closed: isClosed}
		in, out := sifted(l, s)
		lower, at, higher := sorted(l, s.From)
		cut, others := Cut(x, s), Out(x, s)
		less, more, value, ok := At(x, s.From)
		overwrite(s.From, s.To)
		isTreeOf(t, "Cut", cut, in)
		isTreeOf(t, "Out", others, out)
		isTreeOf(t, "less", less, lower)
		isTreeOf(t, "more", more, higher)
		if ok != (len(at) == 1) || ok && string(value) != string(at[0].Value) {
			t.Fatalf("%q: the value shares memory with the key: %q", from, value)
		}
	}
}
