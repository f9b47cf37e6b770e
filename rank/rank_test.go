package rank

import (
	"bytes"
	"math"
	"math/rand"
	"slices"
	"sort"
	"strconv"
	"testing"

	"brushwood/api"
	"brushwood/tree"
)

// asked are the calls that tell the pair nearest to a key.
type asked func(x *tree.Tree, key []byte) (api.Pair, bool)

// ends are the calls that tell a pair of a tree alone.
type ends func(x *tree.Tree) (api.Pair, bool)

// one is the pair of a number: keys rise with it, and every fifth value is empty.
func one(i int) api.Pair {
	p := api.Pair{Key: []byte{byte(i >> 16), byte(i >> 8), byte(i)}}
	if i%5 != 0 {
		p.Value = []byte{'v', byte(i), byte(i >> 8)}
	}
	return p
}

// odd is the pairs of the first n odd numbers: so that there is a key between any two, and at each end.
func odd(n int) []api.Pair {
	var l []api.Pair
	for i := range n {
		l = append(l, one(2*i+1))
	}
	return l
}

func pairOf(key, value string) api.Pair {
	return api.Pair{Key: []byte(key), Value: []byte(value)}
}

func samePair(a, b api.Pair) bool {
	return string(a.Key) == string(b.Key) && string(a.Value) == string(b.Value)
}

// isPair fails, if what was told isn't the pair at place i of l with true; where l has no such place: if it isn't nothing at all with false.
func isPair(t *testing.T, what string, p api.Pair, ok bool, l []api.Pair, i int) {
	t.Helper()
	if i < 0 || i >= len(l) {
		if ok || p.Key != nil || p.Value != nil {
			t.Fatalf("%s, of %d pairs: %v, %v: there is none", what, len(l), p, ok)
		}
		return
	}
	if !ok || !samePair(p, l[i]) {
		t.Fatalf("%s, of %d pairs: %v, %v, not %v", what, len(l), p, ok, l[i])
	}
}

// counted goes through a list, pair by pair: how many keys are less than key, and how many aren't more.
func counted(l []api.Pair, key []byte) (less, upTo int) {
	for _, p := range l {
		if string(p.Key) < string(key) {
			less++
		}
		if string(p.Key) <= string(key) {
			upTo++
		}
	}
	return less, upTo
}

// nearKey holds what is told of a key against a list, which has just the pairs of x.
func nearKey(t *testing.T, what string, x *tree.Tree, l []api.Pair, key []byte) {
	t.Helper()
	less, upTo := counted(l, key)
	if n := Rank(x, key); n != less {
		t.Fatalf("%s: Rank of %q, of %d pairs: %d, not %d", what, key, len(l), n, less)
	}
	p, ok := Floor(x, key)
	isPair(t, what+": Floor of "+strconv.Quote(string(key)), p, ok, l, upTo-1)
	p, ok = Ceil(x, key)
	isPair(t, what+": Ceil of "+strconv.Quote(string(key)), p, ok, l, less)
}

// around is keys at and near a key: itself, the one behind it, one that it begins with, and one a little less.
func around(key []byte) [][]byte {
	near := [][]byte{key, append(slices.Clone(key), 0), append(slices.Clone(key), 0xff)}
	if n := len(key); n > 0 {
		near = append(near, key[:n-1:n-1])
		if key[n-1] > 0 {
			near = append(near, append(slices.Clone(key[:n-1]), key[n-1]-1, 0xff))
		}
	}
	return near
}

// outside is places that a tree of n pairs doesn't have.
func outside(n int) []int {
	return []int{-1, -2, -n, -n - 1, n, n + 1, 2 * n, 1 << 31, 1<<32 + n, 1 << 62, -1 << 62, math.MaxInt - 1, math.MaxInt, math.MinInt, math.MinInt + 1, math.MinInt + n}
}

// tells fails, if one of the six calls tells something of x that its list, which must be l, doesn't say.
func tells(t *testing.T, what string, x *tree.Tree, l []api.Pair) {
	t.Helper()
	if !slices.EqualFunc(x.List(), l, samePair) {
		t.Fatalf("%s: it has other pairs", what)
	}
	p, ok := Min(x)
	isPair(t, what+": Min", p, ok, l, 0)
	p, ok = Max(x)
	isPair(t, what+": Max", p, ok, l, len(l)-1)
	for i := range l {
		p, ok = At(x, i)
		isPair(t, what+": At", p, ok, l, i)
		if n := Rank(x, p.Key); n != i {
			t.Fatalf("%s: the rank of the key of At(%d) is %d", what, i, n)
		}
		for _, key := range around(l[i].Key) {
			nearKey(t, what, x, l, key)
		}
	}
	for _, i := range outside(len(l)) {
		if i < 0 || i >= len(l) {
			p, ok = At(x, i)
			isPair(t, what+": At outside", p, ok, nil, 0)
		}
	}
	for _, key := range [][]byte{nil, {}, {0}, {0, 0, 0, 0}, []byte("a"), bytes.Repeat([]byte{0xff}, 9)} {
		nearKey(t, what, x, l, key)
	}
}

// evenSizes is layer 10's sentence on two sizes.
func evenSizes(l, r int) bool { return l+1 <= 3*(r+1) && r+1 <= 3*(l+1) }

// shares are ways to lay an even tree of n pairs: how many of them lie on the left.
func shares(r *rand.Rand) map[string]func(n int) int {
	least := func(n int) int { return sort.Search(n, func(l int) bool { return evenSizes(l, n-1-l) }) }
	return map[string]func(n int) int{
		"left":  func(n int) int { return n - 1 - least(n) },
		"right": least,
		"zag": func(n int) int {
			if n%2 == 0 {
				return least(n)
			}
			return n - 1 - least(n)
		},
		"any": func(n int) int { return least(n) + r.Intn(n-2*least(n)) },
	}
}

// shaped is a tree of a sorted list, joined of such shares.
func shaped(l []api.Pair, share func(n int) int) *tree.Tree {
	if len(l) == 0 {
		return nil
	}
	k := share(len(l))
	return tree.Join(shaped(l[:k], share), l[k], shaped(l[k+1:], share))
}

// P12.1: the chapter's example.
func TestExample(t *testing.T) {
	x := tree.From([]api.Pair{pairOf("a", "1"), pairOf("c", "2")})
	b := []byte("b")
	if n := Rank(x, b); n != 1 {
		t.Error("Rank of b:", n)
	}
	if p, ok := Floor(x, b); !ok || !samePair(p, pairOf("a", "1")) {
		t.Error("Floor of b:", p, ok)
	}
	if p, ok := Ceil(x, b); !ok || !samePair(p, pairOf("c", "2")) {
		t.Error("Ceil of b:", p, ok)
	}
}

// P12.1: of nothing each of the six calls tells nothing.
func TestNothing(t *testing.T) {
	gone, _ := tree.From(odd(1)).Delete(one(1).Key, nil)
	for name, x := range map[string]*tree.Tree{"nil": nil, "From of nothing": tree.From(nil), "its only pair deleted": gone} {
		tells(t, name, x, nil)
		for _, i := range []int{0, 1, -1, math.MinInt, math.MaxInt} {
			p, ok := At(x, i)
			isPair(t, name+": At", p, ok, nil, 0)
		}
		for _, key := range [][]byte{nil, {}, []byte("a"), {0xff}} {
			nearKey(t, name, x, nil, key)
		}
	}
}

// P12.1, P12.2: of one pair, with an ordinary key, the empty one, the least and a long one, and with an empty value.
func TestOnePair(t *testing.T) {
	for _, p := range []api.Pair{pairOf("k", "v"), pairOf("", ""), pairOf("", "v"), {}, pairOf("\x00", ""), {Key: bytes.Repeat([]byte{0xff}, api.MaxKey), Value: bytes.Repeat([]byte("v"), api.MaxValue)}} {
		l := []api.Pair{p}
		tells(t, "From", tree.From(l), l)
		var none *tree.Tree
		tells(t, "Put", none.Put(p, nil), l)
	}
	x := tree.From([]api.Pair{pairOf("k", "v")})
	for _, c := range []struct {
		key         string
		rank        int
		floor, ceil bool
	}{{"", 0, false, true}, {"a", 0, false, true}, {"j\xff", 0, false, true}, {"k", 0, true, true}, {"k\x00", 1, true, false}, {"kk", 1, true, false}, {"z", 1, true, false}} {
		_, floor := Floor(x, []byte(c.key))
		_, ceil := Ceil(x, []byte(c.key))
		if n := Rank(x, []byte(c.key)); n != c.rank || floor != c.floor || ceil != c.ceil {
			t.Errorf("%q: %d, %v, %v", c.key, n, floor, ceil)
		}
	}
}

// P12.1: Rank of keys that are there, that aren't, less and more than all, empty, no bytes, and that begin alike, counted by hand.
func TestRankByHand(t *testing.T) {
	x := tree.From([]api.Pair{pairOf("ab", "1"), pairOf("abc", "2"), pairOf("b", "3"), pairOf("b\x00", "4"), pairOf("d", "5")})
	for key, want := range map[string]int{"": 0, "\x00": 0, "a": 0, "ab": 0, "ab\x00": 1, "abb": 1, "abc": 1, "abcd": 2, "ac": 2, "b": 2, "b\x00": 3, "b\x00\x00": 4, "b\x01": 4, "c": 4, "d": 4, "d\x00": 5, "\xff": 5} {
		if n := Rank(x, []byte(key)); n != want {
			t.Errorf("%q: %d, not %d", key, n, want)
		}
	}
	if n := Rank(x, nil); n != 0 {
		t.Error("no bytes:", n)
	}
	y := x.Put(pairOf("", "0"), nil)
	for _, key := range [][]byte{nil, {}} {
		if n := Rank(y, key); n != 0 {
			t.Error("the empty key, that is there:", n)
		}
	}
	if n := Rank(y, []byte{0}); n != 1 {
		t.Error("behind the empty key:", n)
	}
}

// P12.1: Floor and Ceil of a key that is there are its own pair; between two the one ahead and the one behind; outside of all there is nothing on the one side.
func TestFloorAndCeilByHand(t *testing.T) {
	x := tree.From([]api.Pair{pairOf("", "0"), pairOf("b", "1"), pairOf("bb", "2"), pairOf("d", "3")})
	y, _ := x.Delete(nil, nil)
	for _, c := range []struct {
		name string
		x    *tree.Tree
		call asked
		key  string
		want string // The value, or nothing for false.
	}{
		{"Floor", x, Floor, "", "0"}, {"Floor", x, Floor, "\x00", "0"}, {"Floor", x, Floor, "b", "1"}, {"Floor", x, Floor, "ba", "1"},
		{"Floor", x, Floor, "bb", "2"}, {"Floor", x, Floor, "c", "2"}, {"Floor", x, Floor, "d", "3"}, {"Floor", x, Floor, "e", "3"},
		{"Floor", y, Floor, "", ""}, {"Floor", y, Floor, "a\xff", ""}, {"Floor", y, Floor, "b", "1"},
		{"Ceil", x, Ceil, "", "0"}, {"Ceil", x, Ceil, "\x00", "1"}, {"Ceil", x, Ceil, "b", "1"}, {"Ceil", x, Ceil, "ba", "2"},
		{"Ceil", x, Ceil, "bb", "2"}, {"Ceil", x, Ceil, "bb\x00", "3"}, {"Ceil", x, Ceil, "d", "3"}, {"Ceil", x, Ceil, "d\x00", ""}, {"Ceil", x, Ceil, "e", ""},
		{"Ceil", y, Ceil, "", "1"}, {"Ceil", y, Ceil, "a\xff", "1"},
	} {
		p, ok := c.call(c.x, []byte(c.key))
		if ok != (c.want != "") || string(p.Value) != c.want || !ok && (p.Key != nil || p.Value != nil) {
			t.Errorf("%s of %q: %v, %v, not %q", c.name, c.key, p, ok, c.want)
		}
	}
}

// P12.1, P12.2: keys that begin alike, the empty key, and bytes of all kinds.
func TestOddKeys(t *testing.T) {
	l := []api.Pair{pairOf("", ""), pairOf("\x00", "\x00"), pairOf("\x00\x00", ""), pairOf("a", "b"), pairOf("a\x00", "\xff"), pairOf("a\x00\x00", "z"), pairOf("ab", "a"), pairOf("\x7f", "7"), pairOf("\x80", "8"), pairOf("\xff", ""), pairOf("\xff\xff", "z")}
	for k := range len(l) + 1 {
		for n := range k + 1 {
			tells(t, "From", tree.From(l[n:k]), l[n:k])
		}
	}
}

// P12.1, P12.2: trees of From, of each size.
func TestEachSize(t *testing.T) {
	for n := range 260 {
		l := odd(n)
		tells(t, "From", tree.From(l), l)
	}
}

// P12.1, P12.2: trees as uneven as they may be, to the left, to the right, to and fro, and at random.
func TestEachShape(t *testing.T) {
	for name, share := range shares(rand.New(rand.NewSource(1))) {
		for n := 1; n < 260; n += 1 + n/20 {
			l := odd(n)
			tells(t, name, shaped(l, share), l)
		}
	}
}

// P12.1, P12.2: trees that Put and then Delete led to, in order, turned about, and at random: what is told is that of each version, of earlier ones too.
func TestPutAndDelete(t *testing.T) {
	const n = 110
	r := rand.New(rand.NewSource(2))
	rising := make([]int, n)
	for i := range rising {
		rising[i] = i
	}
	falling := slices.Clone(rising)
	slices.Reverse(falling)
	for _, puts := range [][]int{rising, falling, r.Perm(n)} {
		for _, deletes := range [][]int{rising, falling, r.Perm(n)} {
			putAndDeleted(t, puts, deletes)
		}
	}
}

// putAndDeleted asks of each tree on the way up and on the way down again.
func putAndDeleted(t *testing.T, puts, deletes []int) {
	t.Helper()
	var x *tree.Tree
	there := map[int]bool{}
	for _, i := range puts {
		x, there[i] = x.Put(one(2*i+1), nil), true
		tells(t, "Put", x, pairsOf(there))
	}
	full, all := x, pairsOf(there)
	for _, i := range deletes {
		x, _ = x.Delete(one(2*i+1).Key, nil)
		delete(there, i)
		tells(t, "Delete", x, pairsOf(there))
	}
	tells(t, "the earlier one", full, all)
}

// pairsOf is the pairs of a set of numbers, sorted.
func pairsOf(there map[int]bool) []api.Pair {
	var numbers []int
	for i := range there {
		numbers = append(numbers, i)
	}
	sort.Ints(numbers)
	var l []api.Pair
	for _, i := range numbers {
		l = append(l, one(2*i+1))
	}
	return l
}

// P12.1, P12.2: Put and Delete mixed, of keys of unlike lengths that often begin alike, with values that change.
func TestMixed(t *testing.T) {
	for seed := range 8 {
		r := rand.New(rand.NewSource(int64(10 + seed)))
		var x *tree.Tree
		there := map[string]string{}
		for step := range 400 {
			key := make([]byte, r.Intn(5))
			for i := range key {
				key[i] = []byte{0, 1, 'a', 0xff}[r.Intn(4)]
			}
			if r.Intn(3) == 0 {
				x, _ = x.Delete(key, nil)
				delete(there, string(key))
			} else {
				value := []byte{byte(step), byte(step >> 8)}[:r.Intn(3)]
				x = x.Put(api.Pair{Key: key, Value: value}, nil)
				there[string(key)] = string(value)
			}
			if step%7 == 0 || step < 40 {
				tells(t, "mixed", x, listOf(there))
			}
		}
		tells(t, "at the end", x, listOf(there))
	}
}

// listOf is a map's pairs, sorted.
func listOf(there map[string]string) []api.Pair {
	var l []api.Pair
	for k, v := range there {
		l = append(l, pairOf(k, v))
	}
	slices.SortFunc(l, func(a, b api.Pair) int { return bytes.Compare(a.Key, b.Key) })
	return l
}

// P12.1, P12.2: a tree with as many pairs as a map may have, asked here and there.
func TestMaxPairs(t *testing.T) {
	const n = api.MaxPairs
	l := odd(n)
	x := tree.From(l)
	r := rand.New(rand.NewSource(3))
	for _, i := range append(r.Perm(n)[:2000], 0, 1, n/2-1, n/2, n/2+1, n-2, n-1) {
		p, ok := At(x, i)
		isPair(t, "At", p, ok, l, i)
		if Rank(x, p.Key) != i || Rank(x, one(2*i).Key) != i || Rank(x, one(2*i+2).Key) != i+1 {
			t.Fatal("Rank:", i)
		}
		for _, key := range [][]byte{one(2*i + 1).Key, append(one(2*i+1).Key, 0)} {
			p, ok = Floor(x, key)
			isPair(t, "Floor", p, ok, l, i)
		}
		for _, key := range [][]byte{one(2*i + 1).Key, append(one(2*i).Key, 0)} {
			p, ok = Ceil(x, key)
			isPair(t, "Ceil", p, ok, l, i)
		}
	}
	for _, i := range outside(n) {
		p, ok := At(x, i)
		isPair(t, "At", p, ok, nil, i)
	}
	p, ok := Min(x)
	isPair(t, "Min", p, ok, l, 0)
	p, ok = Max(x)
	isPair(t, "Max", p, ok, l, n-1)
}

// overwrite writes over bytes, and over what lies behind their length.
func overwrite(lists ...[]byte) {
	for _, b := range lists {
		b = b[:cap(b)]
		for i := range b {
			b[i] = 0xee
		}
	}
}

// byAllCalls is the pair of l at place i, as each call that tells pairs tells it.
func byAllCalls(x *tree.Tree, l []api.Pair, i int) map[string]api.Pair {
	told := map[string]api.Pair{}
	told["At"], _ = At(x, i)
	told["Floor"], _ = Floor(x, l[i].Key)
	told["Ceil"], _ = Ceil(x, l[i].Key)
	for name, end := range map[string]ends{"Min": Min, "Max": Max} {
		if p, _ := end(x); samePair(p, l[i]) {
			told[name] = p
		}
	}
	return told
}

// P12.1: what is told may be written over, and no tree changes; no two answers share memory, nor do the key and the value of one.
func TestNothingToldIsKept(t *testing.T) {
	l := odd(60)
	x := tree.From(l)
	y := x.Put(pairOf("more", "and more"), nil)
	for i := range l {
		told := byAllCalls(x, l, i)
		for name, p := range told {
			overwrite(append(p.Key, "behind"...), p.Key)
			if string(p.Value) != string(l[i].Value) {
				t.Fatal(name, "its key and its value share memory")
			}
			overwrite(append(p.Value, "behind"...), p.Value)
			delete(told, name)
			for other, q := range told {
				if !samePair(q, l[i]) {
					t.Fatal(name, "and", other, "share memory")
				}
			}
		}
	}
	tells(t, "the tree", x, l)
	more, _ := y.Delete([]byte("more"), nil)
	tells(t, "what came of it", more, l)
}

// P12.1: the key that is handed in is neither written into nor shared, and what lies behind its length isn't read.
func TestNothingHandedInIsTouched(t *testing.T) {
	l := []api.Pair{pairOf("a", "1"), pairOf("ab", "2"), pairOf("abc", "3"), pairOf("b", "4")}
	x := tree.From(l)
	room := []byte("abcd")
	for k := range len(room) + 1 {
		nearKey(t, "with room behind it", x, l, room[:k])
		if string(room) != "abcd" {
			t.Fatalf("written into: %q", room)
		}
	}
	for name, call := range map[string]asked{"Floor": Floor, "Ceil": Ceil} {
		key := append(make([]byte, 0, 8), "ab"...)
		p, _ := call(x, key)
		overwrite(key)
		if !samePair(p, l[1]) {
			t.Error(name, "shares the key that it was handed")
		}
	}
	tells(t, "the tree", x, l)
}
