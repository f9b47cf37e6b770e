package trie

import (
	"bytes"
	"encoding/binary"
	"maps"
	"math"
	"math/rand"
	"slices"
	"strconv"
	"testing"

	"brushwood/api"
	"brushwood/find"
	"brushwood/graft"
	"brushwood/layout"
	"brushwood/meter"
	"brushwood/node"
	"brushwood/prune"
	"brushwood/sip"
)

func pairOf(key, value string) api.Pair {
	return api.Pair{Key: []byte(key), Value: []byte(value)}
}

// counted is the seed of the bytes 0 to 15.
func counted() api.Seed {
	var s api.Seed
	for i := range s {
		s[i] = byte(i)
	}
	return s
}

// full is the seed of bytes with all bits.
func full() api.Seed {
	var s api.Seed
	for i := range s {
		s[i] = 0xff
	}
	return s
}

// seeds are of noughts, of the bytes 0 to 15, of all bits, and of one bit at each end.
func seeds() []api.Seed {
	return []api.Seed{{}, counted(), full(), {1}, {15: 0x80}, {9, 8, 7}}
}

// couple is two keys, by their eight bytes as numbers, the lowest byte first.
type couple struct{ a, b uint64 }

func keyOf(n uint64) string {
	return string(binary.LittleEndian.AppendUint64(nil, n))
}

func (c couple) keys() []string { return []string{keyOf(c.a), keyOf(c.b)} }

// crowd is couples of keys that were chosen for a seed: twins have one hash; neighbours have hashes that differ in the highest bit alone.
type crowd struct {
	seed              api.Seed
	twins, neighbours []couple
}

func crowds() []crowd {
	return []crowd{
		{
			twins: []couple{
				{0xe42ac1726da2b690, 0x1abc1f354339d4e9},
				{0x2956c111a8c00e3e, 0x3e2ed7dcb0ea372d},
				{0x270c9da4cf081e52, 0xa5609e469063a747},
				{0x186fb75f4f3c4d14, 0xe709a899c27f171e},
				{0xf2fdcb9e37a0faa0, 0x301fb31644fee9ee},
				{0xaf37196cfa4eabe5, 0xca489ceee4ed2196},
				{0x21d62d713929b896, 0x2657e378b91e44f5},
			},
			neighbours: []couple{
				{0x458a06b679dc40f1, 0x096fb4b0b3a84504},
				{0x26b95223672f0aa8, 0x31ec431e3d16994c},
				{0x55521d79f51fe723, 0x3cab7d6f6426a31c},
				{0x2f773e9254a45185, 0x722b861192c2997a},
				{0x74cc66cf9ccc1f8e, 0x44ceafdeff91e492},
				{0x2af9c92fca6a9d74, 0x2711d876f9a19d41},
			},
		},
		{
			seed: counted(),
			twins: []couple{
				{0x5cbebfa7451fb75b, 0x59a1f10899f05a29},
				{0x0ef05c0f66c05d11, 0xb1fc70cb111741e1},
				{0x6929d9f81738fde0, 0xb4379bdfd222b18f},
				{0x5c0d78c2e6eb8956, 0x0de75a2ac34231c6},
			},
			neighbours: []couple{
				{0x03ce21010abac6bf, 0x6b34d03cb85071ba},
				{0x1126b7ef18780942, 0x4da220f3d16eeee5},
				{0x406a7ec64ef24144, 0x12695473ee4bd3ae},
			},
		},
	}
}

// chosen is all keys of all crowds: under one seed they fall together, under another one they don't.
func chosen() []string {
	var l []string
	for _, c := range crowds() {
		for _, d := range slices.Concat(c.twins, c.neighbours) {
			l = append(l, d.keys()...)
		}
	}
	return l
}

// oddKeys are empty, short, long and strange, and one that is longer than a map's key may be: here nothing forbids it.
func oddKeys() []string {
	long := string(bytes.Repeat([]byte{0xff}, api.MaxKey+1))
	return []string{"", "\x00", "\x00\x00", "k", "k\x00", "k\xff", "l", "\x80", "\xff\xfe", "seven b", "eight by", "nine byte", long[2:], long[1:], long}
}

// plainKeys are so many unlike keys.
func plainKeys(n int) []string {
	var l []string
	for i := range n {
		l = append(l, "key "+strconv.Itoa(i))
	}
	return l
}

// model is what a trie has to be: a finite map, and a seed.
type model struct {
	seed   api.Seed
	values map[string]string
}

func (w model) has(key string) bool {
	_, ok := w.values[key]
	return ok
}

func (w model) with(key, value string) model {
	values := map[string]string{key: value}
	for k, v := range w.values {
		if k != key {
			values[k] = v
		}
	}
	return model{seed: w.seed, values: values}
}

func (w model) without(key string) model {
	values := maps.Clone(w.values)
	delete(values, key)
	return model{seed: w.seed, values: values}
}

// pairs is the map's pairs in the order of their keys: a text's order is that of its bytes.
func (w model) pairs() []api.Pair {
	var l []api.Pair
	for _, k := range slices.Sorted(maps.Keys(w.values)) {
		l = append(l, pairOf(k, w.values[k]))
	}
	return l
}

// entries is each pair with its key's hash under the seed.
func (w model) entries() []layout.Entry {
	var l []layout.Entry
	for _, p := range w.pairs() {
		l = append(l, layout.Entry{Hash: sip.Hash(w.seed, p.Key), Pair: p})
	}
	return l
}

func samePairs(a, b []api.Pair) bool {
	return slices.EqualFunc(a, b, func(p, q api.Pair) bool {
		return bytes.Equal(p.Key, q.Key) && bytes.Equal(p.Value, q.Value)
	})
}

// isTrie fails, if a trie isn't that of a map under a seed, in all that it tells of itself.
func isTrie(t *testing.T, what string, x Trie, w model) {
	t.Helper()
	if x.Seed() != w.seed {
		t.Fatalf("%s: the seed %x, not %x", what, x.Seed(), w.seed)
	}
	if x.Len() != len(w.values) {
		t.Fatalf("%s: %d pairs, not %d", what, x.Len(), len(w.values))
	}
	if (x.Root() == nil) != (len(w.values) == 0) {
		t.Fatalf("%s: of %d pairs the root is %v", what, len(w.values), x.Root())
	}
	o := layout.Of(w.entries())
	if !layout.Same(x.Root(), o) || x.Root() != nil && !node.Right(x.Root(), 0) {
		t.Fatalf("%s: not the layout, or not right", what)
	}
	if !slices.Equal(x.Shape(), layout.Shape(o)) {
		t.Fatalf("%s: the shape %v, not %v", what, x.Shape(), layout.Shape(o))
	}
	if l := x.Pairs(); !samePairs(l, w.pairs()) {
		t.Fatalf("%s: %d pairs, not the %d of the map, in their order", what, len(l), len(w.values))
	}
	for k, v := range w.values {
		if got, ok := x.Get([]byte(k), nil); !ok || string(got) != v {
			t.Fatalf("%s: %.40q has %.40q, %v, not %.40q", what, k, got, ok, v)
		}
	}
}

// plus is a sum that doesn't go round.
func plus(a, b int) int {
	if a > math.MaxInt-b {
		return math.MaxInt
	}
	return a + b
}

// bound is layer 9's sentence: 17, and the greatest whole number that isn't above six times the logarithm of n + 1 to the base 2: so as often as n + 1 to the power 6, which has to be below 2^64 here, can be halved, till it is 1.
func bound(n int) int {
	power := uint64(1)
	for range 6 {
		power *= uint64(n) + 1
	}
	b := 17
	for power > 1 {
		power /= 2
		b++
	}
	return b
}

// counts fails, if a call of a trie of n pairs doesn't count what is said: whatever its meter has counted before; it hands the call each meter, none at last.
func counts(t *testing.T, what string, n int, want meter.Meter, call func(m *meter.Meter)) {
	t.Helper()
	if !want.Within(n) || n <= 1000 && want.Visits > bound(n) || want.Compares > want.Visits {
		t.Fatalf("%s: %v isn't within the bound for %d", what, want, n)
	}
	for _, first := range []meter.Meter{{}, {Visits: 100, Compares: 30}, {Visits: -5, Compares: 7}, {Visits: math.MaxInt, Compares: math.MaxInt}} {
		m := first
		call(&m)
		if w := (meter.Meter{Visits: plus(first.Visits, want.Visits), Compares: plus(first.Compares, want.Compares)}); m != w {
			t.Fatalf("%s: a meter of %v: %v, not %v", what, first, m, w)
		}
	}
	call(nil)
}

// bytesOf is the bytes of a text; of the empty one nil as often as no bytes.
func bytesOf(s string, isNil bool) []byte {
	if s == "" && isNil {
		return nil
	}
	return []byte(s)
}

// gets fails, if a trie doesn't tell of a key what the map says, and doesn't count what layer 18 says.
func gets(t *testing.T, what string, x Trie, w model, key string) {
	t.Helper()
	var want meter.Meter
	find.Get(x.Root(), sip.Hash(w.seed, []byte(key)), []byte(key), &want)
	counts(t, what, len(w.values), want, func(m *meter.Meter) {
		v, ok := x.Get(bytesOf(key, m == nil), m)
		if ok != w.has(key) || string(v) != w.values[key] || !ok && v != nil {
			t.Fatalf("%s: Get of %.40q: %.40q, %v, not %.40q, %v", what, key, v, ok, w.values[key], w.has(key))
		}
	})
}

// puts is a trie with a pair, and what it has to be; it fails, if anything that Put tells or counts isn't as the chapter says it.
func puts(t *testing.T, what string, x Trie, w model, key, value string) (Trie, model) {
	t.Helper()
	next := w.with(key, value)
	var want meter.Meter
	root, fresh := graft.Put(x.Root(), sip.Hash(w.seed, []byte(key)), pairOf(key, value), &want)
	if fresh == w.has(key) {
		t.Fatalf("%s: %.40q: layer 19 says otherwise than the map", what, key)
	}
	var y Trie
	counts(t, what, len(w.values), want, func(m *meter.Meter) {
		var fresh bool
		y, fresh = x.Put(api.Pair{Key: bytesOf(key, m == nil), Value: bytesOf(value, m == nil)}, m)
		if fresh == w.has(key) {
			t.Fatalf("%s: Put of %.40q: told that it is new: %v", what, key, fresh)
		}
		if y.Seed() != w.seed || y.Len() != len(next.values) || !layout.Same(y.Root(), root) {
			t.Fatalf("%s: Put of %.40q: not what layer 19 tells", what, key)
		}
	})
	isTrie(t, what, y, next)
	return y, next
}

// deletes is a trie without a key, and what it has to be; it fails, if anything that Delete tells or counts isn't as the chapter says it.
func deletes(t *testing.T, what string, x Trie, w model, key string) (Trie, model) {
	t.Helper()
	next := w.without(key)
	var want meter.Meter
	root, had := prune.Delete(x.Root(), sip.Hash(w.seed, []byte(key)), []byte(key), &want)
	if had != w.has(key) {
		t.Fatalf("%s: %.40q: layer 20 says otherwise than the map", what, key)
	}
	var y Trie
	counts(t, what, len(w.values), want, func(m *meter.Meter) {
		var had bool
		y, had = x.Delete(bytesOf(key, m == nil), m)
		if had != w.has(key) {
			t.Fatalf("%s: Delete of %.40q: told that it was there: %v", what, key, had)
		}
		if y.Seed() != w.seed || y.Len() != len(next.values) || !layout.Same(y.Root(), root) || !had && y.Root() != x.Root() {
			t.Fatalf("%s: Delete of %.40q: not what layer 20 tells", what, key)
		}
	})
	isTrie(t, what, y, next)
	return y, next
}

// version is a trie, and what it has to be.
type version struct {
	x Trie
	w model
}

func fresh(seed api.Seed) version { return version{x: New(seed), w: model{seed: seed}} }

// grown is all versions, from one without pairs on, as keys are put one by one, each with the value "v" and itself.
func grown(t *testing.T, what string, seed api.Seed, keys []string) []version {
	t.Helper()
	all := []version{fresh(seed)}
	for i, k := range keys {
		x, w := puts(t, what, all[i].x, all[i].w, k, "v"+k)
		all = append(all, version{x, w})
	}
	return all
}

// shrunk is all versions, as keys are deleted one by one.
func shrunk(t *testing.T, what string, from version, keys []string) []version {
	t.Helper()
	all := []version{from}
	for i, k := range keys {
		x, w := deletes(t, what, all[i].x, all[i].w, k)
		all = append(all, version{x, w})
	}
	return all
}

// stay fails, if a version isn't what it was.
func stay(t *testing.T, what string, all []version) {
	t.Helper()
	for _, v := range all {
		isTrie(t, what, v.x, v.w)
	}
}

// permuted hands in each order of a list once.
func permuted[T any](l []T, each func(l []T)) {
	if len(l) == 0 {
		each(nil)
	}
	for i, e := range l {
		permuted(slices.Delete(slices.Clone(l), i, i+1), func(rest []T) { each(append(slices.Clone(rest), e)) })
	}
}

// mixed is a list in another order.
func mixed[T any](l []T, seed int64) []T {
	m := slices.Clone(l)
	rand.New(rand.NewSource(seed)).Shuffle(len(m), func(i, j int) { m[i], m[j] = m[j], m[i] })
	return m
}

// P21.1: the chapter's example: New(seed).Put(a pair): Len 1.
func TestExample(t *testing.T) {
	for _, seed := range seeds() {
		x, isNew := New(seed).Put(pairOf("a", "1"), nil)
		if x.Len() != 1 || !isNew || x.Seed() != seed {
			t.Error(seed, x.Len(), isNew)
		}
	}
}

// P21.1: a trie without pairs: its root is nil, its length 0, no pairs, no shape; Get and Delete of any key find none and visit nothing.
func TestNoPairs(t *testing.T) {
	for _, seed := range seeds() {
		x := New(seed)
		isTrie(t, "no pairs", x, model{seed: seed})
		if x.Root() != nil || x.Len() != 0 || len(x.Pairs()) != 0 || len(x.Shape()) != 0 {
			t.Error(seed, x)
		}
		for _, k := range oddKeys() {
			var m meter.Meter
			v, ok := x.Get([]byte(k), &m)
			y, had := x.Delete([]byte(k), &m)
			if v != nil || ok || had || y.Root() != nil || y.Seed() != seed || m != (meter.Meter{}) {
				t.Fatalf("%x, %.40q: %v, %v, %v, %v", seed, k, v, ok, had, m)
			}
		}
	}
}

// P21.1: the zero Trie is that of a seed of noughts, in all that is told of it and made of it.
func TestZeroTrie(t *testing.T) {
	var zero Trie
	isTrie(t, "the zero Trie", zero, model{})
	v := version{x: zero}
	for _, k := range append(chosen(), "", "a") {
		gets(t, "the zero Trie", v.x, v.w, k)
		v.x, v.w = puts(t, "the zero Trie", v.x, v.w, k, "v")
		gets(t, "the zero Trie", v.x, v.w, k)
	}
	same := New(api.Seed{})
	for _, k := range append(chosen(), "", "a") {
		same, _ = same.Put(pairOf(k, "v"), nil)
	}
	if same.Seed() != v.x.Seed() || !layout.Same(same.Root(), v.x.Root()) || !slices.Equal(same.Shape(), v.x.Shape()) {
		t.Error("not that of a seed of noughts")
	}
}

// P21.1: a key's hash is layer 5's under the seed: that of the example there, and that of the empty key.
func TestHash(t *testing.T) {
	for _, c := range []struct {
		size int
		want uint64
	}{{15, 0xa129ca6149be45e5}, {0, 0x726fdb47dd0e0e31}} {
		seed := counted()
		key := seed[:c.size]
		x, _ := New(seed).Put(api.Pair{Key: key}, nil)
		h, ok := node.Hash(x.Root())
		want := []layout.Spot{{Kind: api.Leaf, Hash: c.want, Count: 1}}
		if h != c.want || !ok || !slices.Equal(x.Shape(), want) {
			t.Errorf("%x, not %x: %v", h, c.want, x.Shape())
		}
	}
}

// P21.1: one pair, of any key and any value: Get, Put and Delete of its key, and of others; behind Delete of the last pair the root is nil again.
func TestOnePair(t *testing.T) {
	for i, seed := range seeds() {
		for j, k := range oddKeys() {
			value := oddKeys()[(i+j)%len(oddKeys())]
			v := fresh(seed)
			v.x, v.w = puts(t, "one pair", v.x, v.w, k, value)
			gets(t, "its key", v.x, v.w, k)
			gets(t, "another key", v.x, v.w, k+"\x00")
			gets(t, "another key", v.x, v.w, "another key")
			puts(t, "the same value", v.x, v.w, k, value)
			puts(t, "another value", v.x, v.w, k, "another value")
			puts(t, "no value", v.x, v.w, k, "")
			deletes(t, "another key", v.x, v.w, "another key")
			if x, _ := deletes(t, "its key", v.x, v.w, k); x.Root() != nil || x.Len() != 0 || x.Seed() != seed {
				t.Fatal("something is left")
			}
		}
	}
}

// P21.1: the empty key and empty values are as all others, alone and among others; no bytes and nil are one.
func TestEmpty(t *testing.T) {
	for _, seed := range seeds() {
		for _, v := range []version{fresh(seed), grown(t, "empty", seed, plainKeys(5))[5]} {
			none := v.w.has("")
			for _, k := range [][]byte{nil, {}} {
				for _, value := range [][]byte{nil, {}} {
					x, isNew := v.x.Put(api.Pair{Key: k, Value: value}, nil)
					isTrie(t, "the empty key", x, v.w.with("", ""))
					again, twice := x.Put(api.Pair{Key: nil, Value: []byte("v")}, nil)
					isTrie(t, "the empty key, with a value", again, v.w.with("", "v"))
					back, had := again.Delete(k, nil)
					isTrie(t, "the empty key deleted", back, v.w)
					got, ok := x.Get(k, nil)
					if !isNew || twice || !had || !ok || len(got) != 0 || none {
						t.Fatal(seed, isNew, twice, had, ok, got)
					}
				}
			}
		}
	}
}

// P21.1: keys of all kinds and lengths with values of all kinds and lengths, put and deleted one by one, and each asked for, whether it is there or not.
func TestOddPairs(t *testing.T) {
	for _, seed := range seeds()[:3] {
		v := fresh(seed)
		for i, k := range oddKeys() {
			gets(t, "not yet", v.x, v.w, k)
			v.x, v.w = puts(t, "odd pairs", v.x, v.w, k, oddKeys()[(i+1)%len(oddKeys())])
			gets(t, "now", v.x, v.w, k)
		}
		for _, k := range mixed(oddKeys(), 21) {
			deletes(t, "none of them", v.x, v.w, k+"!")
			v.x, v.w = deletes(t, "odd pairs", v.x, v.w, k)
			gets(t, "no more", v.x, v.w, k)
		}
		if v.x.Root() != nil {
			t.Error("something is left")
		}
	}
}

// P21.1: of keys that are there, and of such that aren't, Get, Put and Delete tell what the map says, and count what the layers below say, within the bound for as many pairs as there are ahead of the call.
func TestEachSize(t *testing.T) {
	for _, seed := range seeds() {
		all := grown(t, "each size", seed, plainKeys(70))
		for n, v := range all {
			for i := 0; i < 80; i += 1 + n/5 {
				k := "key " + strconv.Itoa(i)
				gets(t, "each size", v.x, v.w, k)
				if i%3 == n%3 {
					puts(t, "each size", v.x, v.w, k, "another value")
					deletes(t, "each size", v.x, v.w, k)
				}
			}
		}
	}
}

// P21.1, and example 3: keys that were chosen so that they have one hash under the seed: a bucket, also below branches; of which a leaf is left.
func TestTwins(t *testing.T) {
	for _, c := range crowds() {
		for _, d := range c.twins {
			keys := d.keys()
			hash := sip.Hash(c.seed, []byte(keys[0]))
			if hash != sip.Hash(c.seed, []byte(keys[1])) {
				t.Fatalf("%q have no one hash", keys)
			}
			v := grown(t, "twins", c.seed, keys)[2]
			if n := v.x.Root(); n.Kind() != api.Bucket || !slices.Equal(v.x.Shape(), []layout.Spot{{Kind: api.Bucket, Hash: hash, Count: 2}}) {
				t.Fatalf("%q: not one bucket", keys)
			}
			for i, k := range keys {
				gets(t, "a twin", v.x, v.w, k)
				puts(t, "a twin again", v.x, v.w, k, "another value")
				x, _ := deletes(t, "a twin", v.x, v.w, k)
				p, ok := node.Pair(x.Root())
				if h, _ := node.Hash(x.Root()); !ok || h != hash || string(p.Key) != keys[1-i] {
					t.Fatalf("%q: the other one isn't left as a leaf", keys)
				}
			}
			gets(t, "none of the twins", v.x, v.w, "none")
			deletes(t, "none of the twins", v.x, v.w, "none")
		}
	}
}

// P21.1, and examples 4 and 5: two keys whose hashes differ in the highest bit alone: thirteen branches, two leaves; of which one stands at the top, as soon as the other one is deleted.
func TestNeighbours(t *testing.T) {
	for _, c := range crowds() {
		for _, d := range c.neighbours {
			keys := d.keys()
			if sip.Hash(c.seed, []byte(keys[0])) != sip.Hash(c.seed, []byte(keys[1]))^1<<63 {
				t.Fatalf("%q are no neighbours", keys)
			}
			v := grown(t, "neighbours", c.seed, keys)[2]
			shape := v.x.Shape()
			if len(shape) != api.Levels+2 || shape[api.Levels-1].Kind != api.Branch || shape[api.Levels].Level != api.Levels || shape[api.Levels+1].Level != api.Levels {
				t.Fatal(shape)
			}
			var m meter.Meter
			if v.x.Get([]byte(keys[0]), &m); m != (meter.Meter{Visits: api.Levels + 1, Compares: 1}) {
				t.Fatal(m)
			}
			for i, k := range keys {
				gets(t, "a neighbour", v.x, v.w, k)
				puts(t, "a neighbour again", v.x, v.w, k, "")
				x, _ := deletes(t, "a neighbour", v.x, v.w, k)
				alone, _ := New(c.seed).Put(pairOf(keys[1-i], "v"+keys[1-i]), nil)
				if !layout.Same(x.Root(), alone.Root()) || x.Root().Kind() != api.Leaf {
					t.Fatalf("%q: the other one isn't as if it had been alone", keys)
				}
			}
		}
	}
}

// P21.1, P21.2: keys that fall together, and such that don't, put one by one and deleted one by one, under each seed; behind all of it each version is what it was.
func TestCrowd(t *testing.T) {
	keys := append(chosen(), plainKeys(30)...)
	for i, seed := range seeds() {
		all := grown(t, "a crowd grows", seed, mixed(keys, int64(i)))
		for _, k := range append(keys, "", "none") {
			gets(t, "a crowd", all[len(keys)].x, all[len(keys)].w, k)
		}
		rest := shrunk(t, "a crowd shrinks", all[len(keys)], mixed(keys, int64(-i)))
		if rest[len(keys)].x.Root() != nil {
			t.Error("something is left")
		}
		stay(t, "behind all of it", append(all, rest...))
	}
}

// P21.1: thousands of pairs: each call tells what the map says, within the bound for the pairs that are there; and behind them all is as it has to be.
func TestMany(t *testing.T) {
	const size = 20000
	keys := append(plainKeys(size), chosen()...)
	for i, seed := range seeds()[:3] {
		x, w := New(seed), model{seed: seed, values: map[string]string{}}
		for n, k := range mixed(keys, int64(i)) {
			var m meter.Meter
			y, isNew := x.Put(pairOf(k, "v"+k), &m)
			if !isNew || x.Len() != n || y.Len() != n+1 || !m.Within(n) {
				t.Fatal(k, isNew, n, y.Len(), m)
			}
			x, w.values[k] = y, "v"+k
		}
		isTrie(t, "many", x, w)
		for n, k := range mixed(keys, int64(100+i)) {
			var m meter.Meter
			left := len(keys) - n
			if v, ok := x.Get([]byte(k), &m); !ok || string(v) != "v"+k || !m.Within(left) {
				t.Fatal(k, ok, left, m)
			}
			m = meter.Meter{}
			y, had := x.Delete([]byte(k), &m)
			if !had || x.Len() != left || y.Len() != left-1 || !m.Within(left) {
				t.Fatal(k, had, left, y.Len(), m)
			}
			x = y
			delete(w.values, k)
			if n%5000 == 0 {
				isTrie(t, "many that are deleted", x, w)
			}
		}
		if x.Root() != nil {
			t.Error("something is left")
		}
	}
}

// P21.1: a meter counts on from call to call; a trie keeps none.
func TestMeterCountsOn(t *testing.T) {
	x := New(counted())
	var m, all meter.Meter
	for _, k := range append(plainKeys(50), chosen()...) {
		var a, b, c meter.Meter
		h := sip.Hash(counted(), []byte(k))
		n, _ := graft.Put(x.Root(), h, pairOf(k, ""), &a)
		find.Get(n, h, []byte(k), &b)
		prune.Delete(n, h, []byte(k), &c)
		all.Visits += a.Visits + b.Visits + c.Visits
		all.Compares += a.Compares + b.Compares + c.Compares
		y, _ := x.Put(pairOf(k, ""), &m)
		y.Get([]byte(k), &m)
		y.Delete([]byte(k), &m)
		y.Get([]byte(k), nil)
		if x = y; m != all {
			t.Fatalf("%v, not %v", m, all)
		}
	}
	before := m
	x.Len()
	x.Pairs()
	x.Shape()
	if m != before {
		t.Error("what has no meter counts")
	}
}

// P21.2: from any version on, whatever is put, deleted or asked for, each earlier one has the seed, the length, the pairs and the shape that it had.
func TestVersionsStay(t *testing.T) {
	for i, seed := range seeds() {
		r := rand.New(rand.NewSource(int64(210 + i)))
		pool := slices.Concat(chosen(), plainKeys(20), []string{"", "\x00", "\xff"})
		all := []version{fresh(seed)}
		for step := range 250 {
			from := all[len(all)-1]
			if r.Intn(4) == 0 {
				from = all[r.Intn(len(all))]
			}
			k := pool[r.Intn(len(pool))]
			gets(t, "at random", from.x, from.w, k)
			if r.Intn(5) < 2+step/100 {
				x, w := deletes(t, "at random", from.x, from.w, k)
				all = append(all, version{x, w})
				continue
			}
			x, w := puts(t, "at random", from.x, from.w, k, strconv.Itoa(r.Intn(3)))
			all = append(all, version{x, w})
		}
		stay(t, "a version at random", all)
	}
}

// roomy is bytes with others behind their length.
func roomy(s string) []byte {
	return append([]byte(s), "behind the length"...)[:len(s)]
}

// spoil writes over bytes, and over all that lies behind their length.
func spoil(b []byte) {
	b = b[:cap(b)]
	for i := range b {
		b[i] ^= 0x55
	}
}

// untouched is bytes that are handed in, and fails, if these, or what lies behind them, were written into; then it writes over them.
func untouched(t *testing.T, s string, call func(b []byte)) {
	t.Helper()
	b := roomy(s)
	call(b)
	if string(b[:cap(b)][:len(s)+len("behind the length")]) != s+"behind the length" {
		t.Fatalf("%.40q was written into", s)
	}
	spoil(b)
}

// P21.2, rules 2 and 7: what was handed in, and what was answered, may be written over behind: each version stays; what is handed in is not written into, nor is what lies behind its length read.
func TestMemory(t *testing.T) {
	for _, seed := range seeds()[:3] {
		keys := slices.Concat(chosen(), []string{"", "a", "ab", "abc"})
		all := []version{fresh(seed)}
		for i, k := range keys {
			v := all[i]
			untouched(t, k, func(key []byte) {
				untouched(t, "v"+k, func(value []byte) { v.x, _ = v.x.Put(api.Pair{Key: key, Value: value}, nil) })
			})
			v.w = v.w.with(k, "v"+k)
			isTrie(t, "written over behind Put", v.x, v.w)
			all = append(all, v)
		}
		for _, k := range mixed(keys, 5) {
			v := all[len(all)-1]
			untouched(t, k, func(key []byte) {
				value, _ := v.x.Get(key, nil)
				spoil(value)
			})
			isTrie(t, "written over behind Get", v.x, v.w)
			untouched(t, k, func(key []byte) { v.x, _ = v.x.Delete(key, nil) })
			v.w = v.w.without(k)
			isTrie(t, "written over behind Delete", v.x, v.w)
			all = append(all, v)
		}
		for _, v := range all {
			for _, p := range v.x.Pairs() {
				spoil(p.Key)
				spoil(p.Value)
			}
			shape := v.x.Shape()
			clear(shape[:cap(shape)])
			clear(v.x.Pairs())
		}
		stay(t, "all that was answered was written over", all)
	}
}

// P21.2, rule 2: no two keys and values of one answer share memory, nor do two answers, nor do two versions.
func TestAnswersShareNothing(t *testing.T) {
	for _, seed := range seeds()[:2] {
		v := grown(t, "to be written over", seed, append(chosen(), "", "a"))
		last := v[len(v)-1]
		l := last.x.Pairs()
		w := last.w.pairs()
		for i := range l {
			spoil(l[i].Key)
			spoil(l[i].Value)
			if !samePairs(l[i+1:], w[i+1:]) {
				t.Fatal("one of them was written over with another one")
			}
		}
		a, _ := last.x.Get([]byte("a"), nil)
		b, _ := last.x.Get([]byte("a"), nil)
		if spoil(a); string(b) != "va" {
			t.Fatal("two answers share memory")
		}
		stay(t, "written over", v)
	}
}

// call is one of a list: Put of a key and a value, or Delete of the key.
type call struct {
	put        bool
	key, value string
}

func (c call) of(x Trie) Trie {
	if c.put {
		x, _ = x.Put(pairOf(c.key, c.value), nil)
		return x
	}
	x, _ = x.Delete([]byte(c.key), nil)
	return x
}

// after is what a list of calls makes of a trie without pairs.
func after(seed api.Seed, l []call) Trie {
	x := New(seed)
	for _, c := range l {
		x = c.of(x)
	}
	return x
}

// isOne fails, if two tries aren't one, node for node.
func isOne(t *testing.T, what string, x, y Trie) {
	t.Helper()
	if x.Seed() != y.Seed() || x.Len() != y.Len() || !slices.Equal(x.Shape(), y.Shape()) || !layout.Same(x.Root(), y.Root()) || !samePairs(x.Pairs(), y.Pairs()) {
		t.Fatalf("%s: two tries: %v and %v", what, x.Shape(), y.Shape())
	}
}

// P21.3, and example 6: a and then b, or b and then a, or a, c, b and c deleted: one trie.
func TestOneTrie(t *testing.T) {
	a, b, c := call{true, "a", "1"}, call{true, "b", "2"}, call{true, "c", "3"}
	for _, seed := range seeds() {
		x := after(seed, []call{a, b})
		isOne(t, "b, a", x, after(seed, []call{b, a}))
		isOne(t, "a, c, b, c deleted", x, after(seed, []call{a, c, b, {key: "c"}}))
		isOne(t, "b over another value", x, after(seed, []call{{true, "b", "1"}, a, b}))
		isOne(t, "none deleted", x, after(seed, []call{{key: "a"}, a, {key: "c"}, b, {key: "c"}}))
		isTrie(t, "one trie", x, model{seed: seed, values: map[string]string{"a": "1", "b": "2"}})
	}
}

// P21.3: all orders of a few keys, of which some fall together, and all orders of deleting the others.
func TestEachOrder(t *testing.T) {
	for _, c := range crowds() {
		keys := append(c.twins[0].keys(), c.neighbours[0].keys()...)
		keys = append(keys, c.twins[1].keys()[0])
		for stays := range len(keys) + 1 {
			w := model{seed: c.seed}
			for _, k := range keys[:stays] {
				w = w.with(k, "v"+k)
			}
			var first []Trie
			permuted(keys, func(order []string) {
				x := New(c.seed)
				for _, k := range order {
					x, _ = x.Put(pairOf(k, "v"+k), nil)
				}
				for _, k := range order {
					if !w.has(k) {
						x, _ = x.Delete([]byte(k), nil)
					}
				}
				if first == nil {
					first = append(first, x)
					isTrie(t, "the first order", x, w)
				}
				isOne(t, "another order", first[0], x)
			})
		}
	}
}

// detours is a list of calls that leads to just a map's pairs, with others that come and go, and values that are written over.
func detours(r *rand.Rand, w model, others []string) []call {
	var l []call
	for _, k := range slices.Sorted(maps.Keys(w.values)) {
		at := r.Intn(len(l) + 1)
		l = slices.Insert(l, at, call{true, k, w.values[k]})
		for range r.Intn(3) {
			l = slices.Insert(l, r.Intn(at+1), call{put: r.Intn(2) == 0, key: k, value: "written over"})
			at++
		}
	}
	for _, k := range others {
		at := r.Intn(len(l) + 1)
		l = slices.Insert(l, at, call{key: k})
		for range r.Intn(3) {
			l = slices.Insert(l, r.Intn(at+1), call{true, k, "not for long"})
			at++
		}
	}
	return l
}

// P21.3: under one seed whatever calls lead to the same pairs lead to the same shape, node for node.
func TestDetours(t *testing.T) {
	for i, seed := range seeds() {
		r := rand.New(rand.NewSource(int64(213 + i)))
		for range 12 {
			pool := mixed(append(chosen(), plainKeys(25)...), r.Int63())
			stays := r.Intn(len(pool) + 1)
			w := model{seed: seed}
			for _, k := range pool[:stays] {
				w = w.with(k, strconv.Itoa(r.Intn(4)))
			}
			var first Trie
			for n := range 8 {
				x := after(seed, detours(r, w, pool[stays:]))
				if n == 0 {
					first = x
				}
				isTrie(t, "a detour", x, w)
				isOne(t, "another detour", first, x)
			}
		}
	}
}

// told is what a call answers, put into words that know nothing of a seed.
func told(x Trie, c call) (Trie, string) {
	value, ok := x.Get([]byte(c.key), nil)
	s := strconv.Quote(string(value)) + strconv.FormatBool(ok)
	if c.put {
		y, isNew := x.Put(pairOf(c.key, c.value), nil)
		return y, s + "put" + strconv.FormatBool(isNew) + strconv.Itoa(y.Len())
	}
	y, had := x.Delete([]byte(c.key), nil)
	return y, s + "deleted" + strconv.FormatBool(had) + strconv.Itoa(y.Len())
}

// P21.4, and example 7: under each seed the same calls get the same answers of Get, Put, Delete, Len and Pairs, whether the keys fall together there or not.
func TestSeedsDontShow(t *testing.T) {
	r := rand.New(rand.NewSource(214))
	pool := slices.Concat(chosen(), plainKeys(20), oddKeys()[:12])
	for range 6 {
		tries := make([]Trie, len(seeds()))
		for i, seed := range seeds() {
			tries[i] = New(seed)
		}
		w := model{values: map[string]string{}}
		for step := range 400 {
			c := call{r.Intn(7) > step/100, pool[r.Intn(len(pool))], strconv.Itoa(step)}
			var first string
			for i, x := range tries {
				y, s := told(x, c)
				if i == 0 {
					first = s
				}
				if s != first || y.Seed() != seeds()[i] {
					t.Fatalf("%x: %s, not %s", seeds()[i], s, first)
				}
				tries[i] = y
			}
			delete(w.values, c.key)
			if c.put {
				w.values[c.key] = c.value
			}
			if step%10 == 0 {
				for i, x := range tries {
					if !samePairs(x.Pairs(), w.pairs()) || x.Len() != len(w.values) {
						t.Fatalf("%x: not the pairs of the map", seeds()[i])
					}
				}
			}
		}
	}
}

// P21.4: what may hang on the seed does: the hashes of the shape are those under it, and none else.
func TestSeedsShowInTheShape(t *testing.T) {
	for _, c := range crowds() {
		for _, other := range []api.Seed{full(), {9, 8, 7}} {
			keys := c.twins[0].keys()
			x := grown(t, "under its own seed", c.seed, keys)[2].x
			y := grown(t, "under another seed", other, keys)[2].x
			if x.Root().Kind() != api.Bucket || y.Root().Kind() != api.Branch || !samePairs(x.Pairs(), y.Pairs()) {
				t.Error(x.Shape(), y.Shape())
			}
		}
	}
}
