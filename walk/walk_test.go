package walk

import (
	"bytes"
	"iter"
	"math"
	"math/rand"
	"slices"
	"sort"
	"strings"
	"testing"

	"brushwood/api"
	"brushwood/keys"
	"brushwood/tree"
)

// one is the pair of a number: keys rise with it, and every fifth value is empty.
func one(i int) api.Pair {
	p := api.Pair{Key: []byte{byte(i >> 16), byte(i >> 8), byte(i)}}
	if i%5 != 0 {
		p.Value = []byte{'v', byte(i), byte(i >> 8)}
	}
	return p
}

// odd is the pairs of the first n odd numbers: so that there is a key between any two, and at each end.
func odd(n int) []api.Pair {
	var l []api.Pair
	for i := range n {
		l = append(l, one(2*i+1))
	}
	return l
}

func pairOf(key, value string) api.Pair {
	return api.Pair{Key: []byte(key), Value: []byte(value)}
}

// named is a pair for each word: its key is the word, and its value the word in capitals.
func named(words ...string) []api.Pair {
	var l []api.Pair
	for _, w := range words {
		l = append(l, pairOf(w, strings.ToUpper(w)))
	}
	return l
}

func open(from string) keys.Span { return keys.Span{From: []byte(from)} }

func closed(from, to string) keys.Span {
	return keys.Span{From: []byte(from), To: []byte(to), Closed: true}
}

func samePair(a, b api.Pair) bool {
	return string(a.Key) == string(b.Key) && string(a.Value) == string(b.Value)
}

func isNothing(p api.Pair) bool { return p.Key == nil && p.Value == nil }

// fingerprint is a tree's pairs, and how they hang together.
func fingerprint(x *tree.Tree) string {
	if x == nil {
		return "."
	}
	p := x.Root()
	return "(" + fingerprint(x.Left()) + string(p.Key) + "=" + string(p.Value) + fingerprint(x.Right()) + ")"
}

// rankOf is how many keys of a list are less, counted one by one.
func rankOf(l []api.Pair, key []byte) int {
	n := 0
	for _, p := range l {
		if string(p.Key) < string(key) {
			n++
		}
	}
	return n
}

// model is what the chapter says of a cursor: a list of pairs, and a place.
type model struct {
	l     []api.Pair
	place int
}

// standsAt fails, if a cursor isn't where its model is.
func (m *model) standsAt(t *testing.T, what string, c *Cursor) {
	t.Helper()
	if c.Place() != m.place || c.Left() != len(m.l)-m.place {
		t.Fatalf("%s: of %d pairs: the place %d, %d left, not %d", what, len(m.l), c.Place(), c.Left(), m.place)
	}
}

// next goes on with a cursor and with its model.
func (m *model) next(t *testing.T, what string, c *Cursor) {
	t.Helper()
	p, ok := c.Next()
	if m.place == len(m.l) {
		if ok || !isNothing(p) {
			t.Fatalf("%s: Next at the end, of %d pairs: %v, %v", what, len(m.l), p, ok)
		}
	} else {
		if !ok || !samePair(p, m.l[m.place]) {
			t.Fatalf("%s: Next at %d, of %d pairs: %v, %v", what, m.place, len(m.l), p, ok)
		}
		m.place++
	}
	m.standsAt(t, what+": behind Next", c)
}

// back goes back with a cursor and with its model.
func (m *model) back(t *testing.T, what string, c *Cursor) {
	t.Helper()
	p, ok := c.Back()
	if m.place == 0 {
		if ok || !isNothing(p) {
			t.Fatalf("%s: Back at the front, of %d pairs: %v, %v", what, len(m.l), p, ok)
		}
	} else {
		if !ok || !samePair(p, m.l[m.place-1]) {
			t.Fatalf("%s: Back at %d, of %d pairs: %v, %v", what, m.place, len(m.l), p, ok)
		}
		m.place--
	}
	m.standsAt(t, what+": behind Back", c)
}

// seek goes to a key with a cursor and with its model.
func (m *model) seek(t *testing.T, what string, c *Cursor, key []byte) {
	t.Helper()
	c.Seek(key)
	m.place = rankOf(m.l, key)
	m.standsAt(t, what+": behind Seek", c)
}

// cursorAt is a cursor at a place, and its model.
func cursorAt(t *testing.T, what string, x *tree.Tree, l []api.Pair, i int) (*Cursor, *model) {
	t.Helper()
	m := &model{l: l, place: i}
	if i < 0 {
		m.place = 0
	}
	if i > len(l) {
		m.place = len(l)
	}
	c := At(x, i)
	m.standsAt(t, what+": At", c)
	return c, m
}

// goesAll goes with a cursor from end to end and back, past each end again and again.
func goesAll(t *testing.T, what string, x *tree.Tree, l []api.Pair) {
	t.Helper()
	c, m := cursorAt(t, what, x, l, 0)
	for range 3 {
		m.back(t, what, c)
	}
	for range len(l) + 3 {
		m.next(t, what, c)
	}
	for range len(l) + 3 {
		m.back(t, what, c)
	}
	m.next(t, what, c)
}

// goesAnyhow goes with a cursor in whatever order, in one direction for some time and then in another one.
func goesAnyhow(t *testing.T, what string, x *tree.Tree, l []api.Pair, r *rand.Rand, steps int) {
	t.Helper()
	near := bounds(l)
	c, m := cursorAt(t, what, x, l, r.Intn(len(l)+5)-2)
	for range steps {
		switch r.Intn(5) {
		case 0, 1:
			for range 1 + r.Intn(4) {
				m.next(t, what, c)
			}
		case 2, 3:
			for range 1 + r.Intn(4) {
				m.back(t, what, c)
			}
		case 4:
			m.seek(t, what, c, near[r.Intn(len(near))])
		}
	}
}

// placed is a pair, and the place that was told with it.
type placed struct {
	place int
	pair  api.Pair
}

func samePlaced(a, b placed) bool { return a.place == b.place && samePair(a.pair, b.pair) }

// sifted is what of a list is in a stretch, by layer 3's sentence, each with its place in the list.
func sifted(l []api.Pair, s keys.Span) []placed {
	var in []placed
	for i, p := range l {
		k := string(p.Key)
		if k >= string(s.From) && (!s.Closed || k < string(s.To)) {
			in = append(in, placed{i, p})
		}
	}
	return in
}

func turned(l []placed) []placed {
	l = slices.Clone(l)
	slices.Reverse(l)
	return l
}

// toldBy is the first most pairs that are told; none is asked for behind them.
func toldBy(seq iter.Seq2[int, api.Pair], most int) []placed {
	var l []placed
	if most == 0 {
		return nil
	}
	for i, p := range seq {
		l = append(l, placed{i, p})
		if len(l) == most {
			break
		}
	}
	return l
}

// isTold fails, if what is told isn't just that; it is gone through twice.
func isTold(t *testing.T, what string, seq iter.Seq2[int, api.Pair], want []placed) {
	t.Helper()
	for range 2 {
		if l := toldBy(seq, len(want)+5); !slices.EqualFunc(l, want, samePlaced) {
			t.Fatalf("%s: %v, not %v", what, l, want)
		}
	}
}

// tellsStretch holds what All and Down tell of a stretch against a list, which has just the pairs of x.
func tellsStretch(t *testing.T, what string, x *tree.Tree, l []api.Pair, s keys.Span) {
	t.Helper()
	in := sifted(l, s)
	isTold(t, what+": All", All(x, s), in)
	isTold(t, what+": Down", Down(x, s), turned(in))
}

// stretches are all that two bounds make: closed or not, and turned about.
func stretches(a, b []byte) []keys.Span {
	return []keys.Span{{From: a, To: b, Closed: true}, {From: b, To: a, Closed: true}, {From: a, To: b}, {From: b, To: a}, {From: a, To: a, Closed: true}, {From: a}}
}

// around is keys at and near a key: itself, two behind it, one that it begins with, and one a little less.
func around(key []byte) [][]byte {
	near := [][]byte{key, append(slices.Clone(key), 0), append(slices.Clone(key), 0xff)}
	if n := len(key); n > 0 {
		near = append(near, key[:n-1:n-1])
		if key[n-1] > 0 {
			near = append(near, append(slices.Clone(key[:n-1]), key[n-1]-1, 0xff))
		}
	}
	return near
}

// bounds are keys at and near those of a list, and outside of all.
func bounds(l []api.Pair) [][]byte {
	all := [][]byte{nil, {}, {0}, {0, 0, 0, 0}, []byte("a"), bytes.Repeat([]byte{0xff}, 9)}
	for _, p := range l {
		all = append(all, around(p.Key)...)
	}
	return all
}

// tells fails, if a cursor, All or Down tells something of x that its list, which must be l, doesn't say, at some of the keys that are near; or if x doesn't stay as it is.
func tells(t *testing.T, what string, x *tree.Tree, l []api.Pair, r *rand.Rand, some int) {
	t.Helper()
	before := fingerprint(x)
	goesAll(t, what, x, l)
	goesAnyhow(t, what, x, l, r, 10*some)
	near := bounds(l)
	for range some {
		a, b := near[r.Intn(len(near))], near[r.Intn(len(near))]
		for _, s := range append(stretches(a, b), keys.Of(a)) {
			tellsStretch(t, what, x, l, s)
		}
	}
	if fingerprint(x) != before {
		t.Fatalf("%s: the tree that was handed in is another one", what)
	}
}

// tellsAll is tells of each place, of each key that is near, and of each stretch between two of them.
func tellsAll(t *testing.T, what string, x *tree.Tree, l []api.Pair) {
	t.Helper()
	before := fingerprint(x)
	goesAll(t, what, x, l)
	near := bounds(l)
	for i := -2; i < len(l)+3; i++ {
		goesFrom(t, what, x, l, i)
	}
	for _, a := range near {
		c, m := cursorAt(t, what, x, l, len(a))
		m.seek(t, what, c, a)
		m.next(t, what, c)
		m.seek(t, what, c, a)
		m.back(t, what, c)
		tellsStretch(t, what, x, l, keys.Of(a))
		for _, b := range near {
			tellsStretch(t, what, x, l, keys.Span{From: a, To: b, Closed: true})
			tellsStretch(t, what, x, l, keys.Span{From: a, To: b})
		}
	}
	if fingerprint(x) != before {
		t.Fatalf("%s: the tree that was handed in is another one", what)
	}
}

// goesFrom goes from a place on to the one side, and from there anew to the other one.
func goesFrom(t *testing.T, what string, x *tree.Tree, l []api.Pair, i int) {
	t.Helper()
	c, m := cursorAt(t, what, x, l, i)
	m.next(t, what, c)
	m.next(t, what, c)
	c, m = cursorAt(t, what, x, l, i)
	m.back(t, what, c)
	m.back(t, what, c)
}

// evenSizes is layer 10's sentence on two sizes.
func evenSizes(l, r int) bool { return l+1 <= 3*(r+1) && r+1 <= 3*(l+1) }

// allShapes is every even tree of a sorted list: Join of two that are even lays no node anew.
func allShapes(l []api.Pair) []*tree.Tree {
	if len(l) == 0 {
		return []*tree.Tree{nil}
	}
	var all []*tree.Tree
	for k := range l {
		if !evenSizes(k, len(l)-1-k) {
			continue
		}
		for _, left := range allShapes(l[:k]) {
			for _, right := range allShapes(l[k+1:]) {
				all = append(all, tree.Join(left, l[k], right))
			}
		}
	}
	return all
}

// shares are ways to lay an even tree of n pairs: how many of them lie on the left.
func shares(r *rand.Rand) map[string]func(n int) int {
	least := func(n int) int { return sort.Search(n, func(l int) bool { return evenSizes(l, n-1-l) }) }
	return map[string]func(n int) int{
		"left":  func(n int) int { return n - 1 - least(n) },
		"right": least,
		"zag": func(n int) int {
			if n%2 == 0 {
				return least(n)
			}
			return n - 1 - least(n)
		},
		"any": func(n int) int { return least(n) + r.Intn(n-2*least(n)) },
	}
}

// shaped is a tree of a sorted list, joined of such shares.
func shaped(l []api.Pair, share func(n int) int) *tree.Tree {
	if len(l) == 0 {
		return nil
	}
	k := share(len(l))
	return tree.Join(shaped(l[:k], share), l[k], shaped(l[k+1:], share))
}

// P15.1, P15.2: the chapter's example.
func TestExample(t *testing.T) {
	c := At(tree.From(named("a", "b")), 0)
	for _, step := range []struct {
		name string
		call func() (api.Pair, bool)
		want string // The key, or nothing for false.
	}{{"Next", c.Next, "a"}, {"Next", c.Next, "b"}, {"Next", c.Next, ""}, {"Back", c.Back, "b"}} {
		p, ok := step.call()
		if ok != (step.want != "") || string(p.Key) != step.want || string(p.Value) != strings.ToUpper(step.want) {
			t.Errorf("%s: %v, %v, not %q", step.name, p, ok, step.want)
		}
	}
	if c.Place() != 1 || c.Left() != 1 {
		t.Error("at the end:", c.Place(), c.Left())
	}
}

// P15.1: a cursor of nothing is at its front and at its end, wherever it is put; no stretch of nothing has a pair.
func TestNothing(t *testing.T) {
	gone, _ := tree.From(odd(1)).Delete(one(1).Key, nil)
	for name, x := range map[string]*tree.Tree{"nil": nil, "From of nothing": tree.From(nil), "its only pair deleted": gone} {
		for _, i := range []int{math.MinInt, -1, 0, 1, 5, math.MaxInt} {
			c, m := cursorAt(t, name, x, nil, i)
			m.next(t, name, c)
			m.back(t, name, c)
		}
		tellsAll(t, name, x, nil)
	}
}

// P15.1, P15.2: of one pair, with an ordinary key, the empty one, the least and a long one, and with an empty value.
func TestOnePair(t *testing.T) {
	for _, p := range []api.Pair{pairOf("k", "v"), pairOf("", ""), pairOf("", "v"), {}, pairOf("\x00", ""), {Key: bytes.Repeat([]byte{0xff}, api.MaxKey), Value: bytes.Repeat([]byte("v"), api.MaxValue)}} {
		l := []api.Pair{p}
		tellsAll(t, "From", tree.From(l), l)
		var none *tree.Tree
		tellsAll(t, "Put", none.Put(p, nil), l)
	}
}

// P15.1: At a place below 0 is at the front, past the size at the end, by hand and to the ends of all numbers.
func TestAtByHand(t *testing.T) {
	x := tree.From(named("a", "b", "c"))
	for _, c := range []struct {
		i, place    int
		ahead, next string // The keys, or nothing for false.
	}{
		{math.MinInt, 0, "", "a"}, {math.MinInt + 1, 0, "", "a"}, {-1 << 32, 0, "", "a"}, {-4, 0, "", "a"}, {-3, 0, "", "a"}, {-1, 0, "", "a"},
		{0, 0, "", "a"}, {1, 1, "a", "b"}, {2, 2, "b", "c"}, {3, 3, "c", ""},
		{4, 3, "c", ""}, {5, 3, "c", ""}, {1 << 32, 3, "c", ""}, {1<<32 + 1, 3, "c", ""}, {math.MaxInt - 1, 3, "c", ""}, {math.MaxInt, 3, "c", ""},
	} {
		if y := At(x, c.i); y.Place() != c.place || y.Left() != 3-c.place {
			t.Errorf("At %d: the place %d, %d left", c.i, y.Place(), y.Left())
		}
		if p, ok := At(x, c.i).Back(); ok != (c.ahead != "") || string(p.Key) != c.ahead || !ok && !isNothing(p) {
			t.Errorf("At %d: Back: %v, %v", c.i, p, ok)
		}
		if p, ok := At(x, c.i).Next(); ok != (c.next != "") || string(p.Key) != c.next || !ok && !isNothing(p) {
			t.Errorf("At %d: Next: %v, %v", c.i, p, ok)
		}
	}
}

// P15.1: Seek of keys that are there, that aren't, less and more than all, empty, no bytes, and that begin alike, counted by hand; from wherever the cursor stands.
func TestSeekByHand(t *testing.T) {
	x := tree.From([]api.Pair{pairOf("ab", "1"), pairOf("abc", ""), pairOf("b", "3"), pairOf("b\x00", "4"), pairOf("d", "5")})
	for key, want := range map[string]int{"": 0, "\x00": 0, "a": 0, "ab": 0, "ab\x00": 1, "abb": 1, "abc": 1, "abcd": 2, "ac": 2, "b": 2, "b\x00": 3, "b\x00\x00": 4, "b\x01": 4, "c": 4, "d": 4, "d\x00": 5, "\xff": 5} {
		for i := range 6 {
			c := At(x, i)
			for range 2 {
				c.Seek([]byte(key))
				if c.Place() != want || c.Left() != 5-want {
					t.Errorf("%q from %d: the place %d, %d left, not %d", key, i, c.Place(), c.Left(), want)
				}
			}
		}
	}
	y := x.Put(pairOf("", "0"), nil)
	for _, key := range [][]byte{nil, {}} {
		for _, z := range []*tree.Tree{x, y} {
			c := At(z, 3)
			c.Seek(key)
			if c.Place() != 0 || c.Left() != z.Size() {
				t.Error("no bytes:", c.Place(), c.Left())
			}
		}
	}
	c := At(y, 3)
	c.Seek([]byte{0})
	if c.Place() != 1 {
		t.Error("behind the empty key:", c.Place())
	}
}

// P15.1: Next at the end and Back at the front tell nothing, again and again, and the place stays; it goes on from there the other way.
func TestEndsAgainAndAgain(t *testing.T) {
	for n := range 20 {
		l := odd(n)
		x := tree.From(l)
		for _, i := range []int{math.MinInt, 0, n, math.MaxInt} {
			c, m := cursorAt(t, "ends", x, l, i)
			for range n + 100 {
				m.next(t, "ends", c)
			}
			m.back(t, "ends", c)
			for range n + 100 {
				m.back(t, "ends", c)
			}
			m.next(t, "ends", c)
		}
	}
}

// P15.2: at each place Back behind Next, and Next behind Back, tell the same pair, and lead back to the place.
func TestBackBehindNext(t *testing.T) {
	for _, n := range []int{1, 2, 3, 10, 77, 300} {
		x := tree.From(odd(n))
		for i := range n {
			c := At(x, i)
			p, ok := c.Next()
			q, again := c.Back()
			if !ok || !again || !samePair(p, q) || c.Place() != i {
				t.Fatalf("%d of %d: %v, %v, then %v, %v, at %d", i, n, p, ok, q, again, c.Place())
			}
			c = At(x, i+1)
			p, ok = c.Back()
			q, again = c.Next()
			if !ok || !again || !samePair(p, q) || c.Place() != i+1 {
				t.Fatalf("%d of %d: %v, %v, then %v, %v, at %d", i+1, n, p, ok, q, again, c.Place())
			}
		}
	}
}

// P15.1: stretches that aren't closed, that are empty, that have none, some, all, and whose bounds are keys that are there, and are not, by hand.
func TestStretchesByHand(t *testing.T) {
	x := tree.From(named("", "ab", "abc", "b", "bb", "d"))
	unmeant := keys.Span{From: []byte("b"), To: []byte("bb")}
	turnedOpen := keys.Span{From: []byte("b"), To: []byte("a")}
	for _, c := range []struct {
		name     string
		s        keys.Span
		from, to int
	}{
		{"all: no bounds at all", keys.Span{}, 0, 6},
		{"all: closed behind the last one", closed("", "e"), 0, 6},
		{"not closed, From is there", open("b"), 3, 6},
		{"not closed, From isn't there", open("aba"), 2, 6},
		{"not closed, from behind all", open("d\x00"), 6, 6},
		{"not closed, To has no meaning", unmeant, 3, 6},
		{"not closed, nor if To is less", turnedOpen, 3, 6},
		{"closed, both are there", closed("ab", "bb"), 1, 4},
		{"closed, both aren't there", closed("a", "c"), 1, 5},
		{"closed, From alone is there", closed("abc", "c"), 2, 5},
		{"closed, To alone is there", closed("a", "d"), 1, 5},
		{"the empty key alone", closed("", "\x00"), 0, 1},
		{"one key alone", closed("b", "b\x00"), 3, 4},
		{"the last one alone", closed("c", "d\x00"), 5, 6},
		{"none of the tree's keys", closed("b\x00", "ba"), 0, 0},
		{"none: ahead of all but the empty key", closed("\x00", "ab"), 0, 0},
		{"none: behind all", closed("e", "f"), 0, 0},
		{"empty: To is From", closed("b", "b"), 0, 0},
		{"empty: To is From, and isn't there", closed("c", "c"), 0, 0},
		{"empty: To is less", closed("bb", "ab"), 0, 0},
		{"empty: To is less than all, From more", closed("z", "\x00"), 0, 0},
		{"empty: both have no bytes", closed("", ""), 0, 0},
		{"empty: To has no bytes", closed("b", ""), 0, 0},
		{"empty: neither is there at all", keys.Span{Closed: true}, 0, 0},
		{"what begins with ab", keys.Of([]byte("ab")), 1, 3},
		{"what begins with no bytes", keys.Of(nil), 0, 6},
		{"what begins with 255", keys.Of([]byte{0xff}), 0, 0},
	} {
		var want []placed
		for i, p := range x.List() {
			if i >= c.from && i < c.to {
				want = append(want, placed{i, p})
			}
		}
		isTold(t, c.name+": All", All(x, c.s), want)
		isTold(t, c.name+": Down", Down(x, c.s), turned(want))
	}
}

// leftOff asks for so many pairs by hand, and fails, if more are told behind the one at which no more is asked for.
func leftOff(t *testing.T, what string, seq iter.Seq2[int, api.Pair], most int) []placed {
	t.Helper()
	var l []placed
	seq(func(i int, p api.Pair) bool {
		l = append(l, placed{i, p})
		return len(l) < most
	})
	if len(l) > max(most, 1) {
		t.Fatalf("%s: %d were told, not %d", what, len(l), most)
	}
	return l
}

// P15.1: All and Down are told as far as is asked: left off behind none, behind the first, in the midst, at the last pair; and then gone through anew, from the first one on.
func TestLeftOff(t *testing.T) {
	for _, n := range []int{0, 1, 2, 3, 8, 40} {
		l := odd(n)
		x := tree.From(l)
		for _, s := range []keys.Span{{}, {From: one(5).Key}, {From: one(2).Key, To: one(17).Key, Closed: true}, {From: one(9).Key, To: one(3).Key, Closed: true}} {
			in := sifted(l, s)
			leavesOff(t, "All", All(x, s), in)
			leavesOff(t, "Down", Down(x, s), turned(in))
		}
	}
}

// leavesOff leaves what is told off at each place, and goes through all of it between.
func leavesOff(t *testing.T, what string, seq iter.Seq2[int, api.Pair], want []placed) {
	t.Helper()
	for most := range len(want) + 2 {
		k := min(most, len(want))
		if got := toldBy(seq, most); !slices.EqualFunc(got, want[:k], samePlaced) {
			t.Fatalf("%s: left off behind %d: %v", what, most, got)
		}
		if most > 0 {
			if got := leftOff(t, what, seq, most); !slices.EqualFunc(got, want[:k], samePlaced) {
				t.Fatalf("%s: left off behind %d by hand: %v", what, most, got)
			}
		}
		isTold(t, what+": behind what was left off", seq, want)
	}
}

// P15.1: several are gone through at a time, one within the other, and none leads another one astray; nor do two cursors.
func TestAtATime(t *testing.T) {
	l := odd(12)
	x := tree.From(l)
	up, down := All(x, keys.Span{}), Down(x, keys.Span{})
	c, m := cursorAt(t, "one", x, l, 0)
	d, n := cursorAt(t, "the other one", x, l, 12)
	at := 0
	for i, p := range up {
		if i != at || !samePair(p, l[i]) {
			t.Fatal("the outer one:", i, p)
		}
		at++
		isTold(t, "the same, within itself", up, sifted(l, keys.Span{}))
		isTold(t, "Down within All", down, turned(sifted(l, keys.Span{})))
		m.next(t, "one", c)
		n.back(t, "the other one", d)
	}
	if at != 12 {
		t.Error("the outer one ended at", at)
	}
}

// P15.1, P15.2: keys that begin alike, the empty key, bytes of all kinds, and all stretches of keys that begin with some bytes.
func TestOddKeys(t *testing.T) {
	l := []api.Pair{pairOf("", ""), pairOf("\x00", "\x00"), pairOf("\x00\x00", ""), pairOf("a", "b"), pairOf("a\x00", "\xff"), pairOf("a\x00\x00", "z"), pairOf("ab", "a"), pairOf("a\xff", "f"), pairOf("a\xff\xff", ""), pairOf("\x7f", "7"), pairOf("\x80", "8"), pairOf("\xff", ""), pairOf("\xff\xff", "z")}
	for k := range len(l) + 1 {
		tellsAll(t, "From", tree.From(l[k:]), l[k:])
		tellsAll(t, "From", tree.From(l[:k]), l[:k])
	}
}

// P15.1, P15.2: each even tree of few pairs, at each place, at each key and by each stretch.
func TestEveryShape(t *testing.T) {
	for n := range 6 {
		for _, x := range allShapes(odd(n)) {
			tellsAll(t, "each shape", x, odd(n))
		}
	}
	r := rand.New(rand.NewSource(1))
	for n := 6; n < 12; n++ {
		for _, x := range allShapes(odd(n)) {
			tells(t, "each shape", x, odd(n), r, 4)
		}
	}
}

// P15.1, P15.2: trees of From, of each size.
func TestEachSize(t *testing.T) {
	r := rand.New(rand.NewSource(2))
	for n := range 320 {
		l := odd(n)
		tells(t, "From", tree.From(l), l, r, 6)
	}
}

// P15.1, P15.2: trees as uneven as they may be, to the left, to the right, to and fro, and at random.
func TestEachShape(t *testing.T) {
	r := rand.New(rand.NewSource(3))
	for name, share := range shares(r) {
		for n := 1; n < 500; n += 1 + n/8 {
			l := odd(n)
			tells(t, name, shaped(l, share), l, r, 8)
		}
	}
}

// P15.1, P15.2: trees that Put and then Delete led to, in order, turned about, and at random; earlier versions are gone through like later ones.
func TestPutAndDelete(t *testing.T) {
	const n = 100
	r := rand.New(rand.NewSource(4))
	rising := make([]int, n)
	for i := range rising {
		rising[i] = i
	}
	falling := slices.Clone(rising)
	slices.Reverse(falling)
	for _, puts := range [][]int{rising, falling, r.Perm(n)} {
		for _, deletes := range [][]int{rising, falling, r.Perm(n)} {
			putAndDeleted(t, puts, deletes, r)
		}
	}
}

// putAndDeleted goes through each tree on the way up and on the way down again.
func putAndDeleted(t *testing.T, puts, deletes []int, r *rand.Rand) {
	t.Helper()
	var x *tree.Tree
	there := map[string]string{}
	for _, i := range puts {
		p := one(2*i + 1)
		x, there[string(p.Key)] = x.Put(p, nil), string(p.Value)
		tells(t, "Put", x, listOf(there), r, 2)
	}
	full, all := x, listOf(there)
	for _, i := range deletes {
		key := one(2*i + 1).Key
		x, _ = x.Delete(key, nil)
		delete(there, string(key))
		tells(t, "Delete", x, listOf(there), r, 2)
	}
	tells(t, "the earlier one", full, all, r, 20)
}

// listOf is a map's pairs, sorted.
func listOf(there map[string]string) []api.Pair {
	var l []api.Pair
	for k, v := range there {
		l = append(l, pairOf(k, v))
	}
	slices.SortFunc(l, func(a, b api.Pair) int { return bytes.Compare(a.Key, b.Key) })
	return l
}

// P15.1, P15.2: Put and Delete mixed, of keys of unlike lengths that often begin alike, with values that change; cursors, and what is still to be told, go on in the trees that they were made of.
func TestMixed(t *testing.T) {
	for seed := range 6 {
		r := rand.New(rand.NewSource(int64(10 + seed)))
		var x *tree.Tree
		there := map[string]string{}
		for step := range 400 {
			l := listOf(there)
			c, m := cursorAt(t, "earlier", x, l, r.Intn(len(l)+1))
			up, down := All(x, keys.Span{}), Down(x, keys.Span{})
			x = oneMore(x, there, step, r)
			m.next(t, "earlier", c)
			m.back(t, "earlier", c)
			isTold(t, "earlier: All", up, sifted(l, keys.Span{}))
			isTold(t, "earlier: Down", down, turned(sifted(l, keys.Span{})))
			if step%7 == 0 || step < 40 {
				tells(t, "mixed", x, listOf(there), r, 4)
			}
		}
	}
}

// oneMore puts or deletes a pair, in a tree and in a map.
func oneMore(x *tree.Tree, there map[string]string, step int, r *rand.Rand) *tree.Tree {
	key := make([]byte, r.Intn(5))
	for i := range key {
		key[i] = []byte{0, 1, 'a', 0xff}[r.Intn(4)]
	}
	if r.Intn(3) == 0 {
		x, _ = x.Delete(key, nil)
		delete(there, string(key))
		return x
	}
	value := []byte{byte(step), byte(step >> 8)}[:r.Intn(3)]
	there[string(key)] = string(value)
	return x.Put(api.Pair{Key: key, Value: value}, nil)
}

// P15.1: a cursor, and what is still to be told, go on in their own tree, whatever comes of that tree meanwhile.
func TestItsOwnTree(t *testing.T) {
	l := odd(40)
	x := tree.From(l)
	c, m := cursorAt(t, "its own tree", x, l, 0)
	later := x
	at := 0
	for i, p := range All(x, keys.Span{}) {
		if i != at || !samePair(p, l[i]) {
			t.Fatal("All:", i, p)
		}
		at++
		later = later.Put(one(2*i+2), nil).Put(api.Pair{Key: one(2*i + 3).Key, Value: []byte("other")}, nil)
		later, _ = later.Delete(p.Key, nil)
		m.next(t, "its own tree", c)
		m.seek(t, "its own tree", c, one(2*i+2).Key)
	}
	if at != 40 || later.Size() == 40 {
		t.Error("told:", at, "size:", later.Size())
	}
	goesBack(t, c, m)
}

// goesBack goes back with a cursor to its front.
func goesBack(t *testing.T, c *Cursor, m *model) {
	t.Helper()
	for range len(m.l) + 1 {
		m.back(t, "its own tree", c)
	}
}

// P15.1, P15.2: a tree with as many pairs as a map may have.
func TestMaxPairs(t *testing.T) {
	const n = api.MaxPairs
	l := odd(n)
	x := tree.From(l)
	at := 0
	for i, p := range All(x, keys.Span{}) {
		if i != at || !samePair(p, l[i]) {
			t.Fatal("All:", i, p)
		}
		at++
	}
	if at != n {
		t.Fatal("All ended at", at)
	}
	for i, p := range Down(x, keys.Span{}) {
		at--
		if i != at || !samePair(p, l[i]) {
			t.Fatal("Down:", i, p)
		}
	}
	if at != 0 {
		t.Fatal("Down ended at", at)
	}
	r := rand.New(rand.NewSource(5))
	for _, i := range append(r.Perm(n)[:2000], 0, 1, n/2-1, n/2, n/2+1, n-2, n-1) {
		goesFrom(t, "At", x, l, i)
		c := At(x, 0)
		c.Seek(l[i].Key)
		if p, ok := c.Next(); !ok || !samePair(p, l[i]) || c.Place() != i+1 || c.Left() != n-1-i {
			t.Fatal("Seek:", i, p, ok, c.Place(), c.Left())
		}
	}
}

// overwrite writes over bytes, and over what lies behind their length.
func overwrite(lists ...[]byte) {
	for _, b := range lists {
		b = b[:cap(b)]
		for i := range b {
			b[i] = 0xee
		}
	}
}

// spoiled fails, if a pair that was told isn't that one, or its key and its value share memory; it is written over.
func spoiled(t *testing.T, what string, p, want api.Pair) {
	t.Helper()
	if !samePair(p, want) {
		t.Fatalf("%s: %v, not %v", what, p, want)
	}
	overwrite(append(p.Key, "behind"...), p.Key)
	if string(p.Value) != string(want.Value) {
		t.Fatalf("%s: its key and its value share memory", what)
	}
	overwrite(append(p.Value, "behind"...), p.Value)
}

// P15.1: what is told may be written over at once, and no tree, no cursor, and nothing that is still to be told changes.
func TestNothingToldIsKept(t *testing.T) {
	l := odd(60)
	x := tree.From(l)
	before := fingerprint(x)
	up, down := All(x, keys.Span{}), Down(x, keys.Span{})
	c := At(x, 0)
	for range 2 {
		for i := range l {
			p, _ := c.Next()
			spoiled(t, "Next", p, l[i])
			p, _ = c.Back()
			spoiled(t, "Back behind Next", p, l[i])
			c.Next()
		}
		for i := len(l) - 1; i >= 0; i-- {
			p, _ := c.Back()
			spoiled(t, "Back", p, l[i])
		}
		for i, p := range up {
			spoiled(t, "All", p, l[i])
		}
		for i, p := range down {
			spoiled(t, "Down", p, l[i])
		}
	}
	if fingerprint(x) != before {
		t.Error("the tree changed")
	}
}

// P15.1: the keys that are handed in are neither written into nor kept, and what lies behind their length isn't read.
func TestNothingHandedInIsTouched(t *testing.T) {
	l := []api.Pair{pairOf("a", "1"), pairOf("ab", "2"), pairOf("abc", "3"), pairOf("abcd", "4"), pairOf("b", "5")}
	x := tree.From(l)
	before := fingerprint(x)
	room, otherRoom := []byte("abcd"), []byte("abcd")
	for k := range len(room) + 1 {
		c, m := cursorAt(t, "with room behind it", x, l, 5)
		m.seek(t, "with room behind it", c, room[:k])
		for n := range len(room) + 1 {
			for _, s := range stretches(room[:k], otherRoom[:n]) {
				tellsStretch(t, "with room behind it", x, l, s)
			}
		}
		if string(room) != "abcd" || string(otherRoom) != "abcd" {
			t.Fatalf("written into: %q, %q", room, otherRoom)
		}
	}
	for _, from := range []string{"", "a", "ab", "abb", "b"} {
		for _, to := range []string{"a", "abc", "abca", "b", "c"} {
			unshared(t, x, l, from, to)
		}
	}
	if fingerprint(x) != before {
		t.Error("the tree changed")
	}
}

// unshared writes over the keys that were handed in, before any pair is asked for and again behind the first one, and fails, if that shows in what is told.
func unshared(t *testing.T, x *tree.Tree, l []api.Pair, from, to string) {
	t.Helper()
	for _, isClosed := range []bool{false, true} {
		handedIn := func() keys.Span {
			return keys.Span{From: append(make([]byte, 0, 8), from...), To: append(make([]byte, 0, 8), to...), Closed: isClosed}
		}
		in := sifted(l, handedIn())
		for what, want := range map[string][]placed{"All": in, "Down": turned(in)} {
			call := All
			if what == "Down" {
				call = Down
			}
			s := handedIn()
			seq := call(x, s)
			overwrite(s.From, s.To)
			isTold(t, what+": the stretch written over ahead", seq, want)
			s = handedIn()
			var got []placed
			for i, p := range call(x, s) {
				overwrite(s.From, s.To)
				got = append(got, placed{i, p})
			}
			if !slices.EqualFunc(got, want, samePlaced) {
				t.Fatalf("%s: the stretch written over in the midst: %v", what, got)
			}
		}
		c, m := cursorAt(t, "Seek", x, l, 0)
		key := handedIn().From
		m.seek(t, "Seek", c, key)
		overwrite(key)
		m.standsAt(t, "the key written over", c)
		m.next(t, "the key written over", c)
		m.back(t, "the key written over", c)
		m.back(t, "the key written over", c)
	}
}
