package pair

import (
	"bytes"
	"encoding/binary"
	"math/rand"
	"slices"
	"testing"

	"brushwood/api"
	"brushwood/keys"
)

// list is pairs of texts, key and value by turns.
func list(l ...string) []api.Pair {
	var out []api.Pair
	for i := 0; i+1 < len(l); i += 2 {
		out = append(out, api.Pair{Key: []byte(l[i]), Value: []byte(l[i+1])})
	}
	return out
}

// of is a list of these keys, with no values.
func of(keys ...string) []api.Pair {
	var out []api.Pair
	for _, k := range keys {
		out = append(out, api.Pair{Key: []byte(k)})
	}
	return out
}

// chain is a then b, as new memory of the list.
func chain(a, b []api.Pair) []api.Pair {
	return append(slices.Clone(a), b...)
}

// show is a list as texts, key and value by turns: what two lists are held against each other by.
func show(l []api.Pair) []string {
	var out []string
	for _, p := range l {
		out = append(out, string(p.Key), string(p.Value))
	}
	return out
}

// lists is every list of at most size of these pairs.
func lists(size int, pairs []api.Pair) [][]api.Pair {
	all := [][]api.Pair{nil}
	last := all
	for range size {
		var longer [][]api.Pair
		for _, l := range last {
			for _, p := range pairs {
				longer = append(longer, chain(l, []api.Pair{p}))
			}
		}
		all = append(all, longer...)
		last = longer
	}
	return all
}

// fewPairs has keys that begin alike, that are empty, and that have bytes from 128 on, some of them with two values.
func fewPairs() []api.Pair {
	return list("", "1", "", "", "a", "1", "a", "2", "a\x00", "1", "\xff", "3")
}

// chanceLists has lists without a pattern, in which keys stand several times.
func chanceLists(count int) [][]api.Pair {
	r := rand.New(rand.NewSource(4))
	out := [][]api.Pair{nil}
	for range count {
		var l []api.Pair
		many := 1 + r.Intn(60)
		for range r.Intn(100) {
			k := make([]byte, r.Intn(4))
			for i := range k {
				k[i] = byte(r.Intn(many) * 251)
			}
			l = append(l, api.Pair{Key: k, Value: []byte{byte(r.Intn(256)), byte(len(l))}})
		}
		out = append(out, l)
	}
	return out
}

// counted is a map of that many pairs.
func counted(size int) []api.Pair {
	l := make([]api.Pair, size)
	for i := range l {
		l[i].Key = binary.BigEndian.AppendUint32(nil, uint32(i))
		l[i].Value = l[i].Key[2:]
	}
	return l
}

// isSorted is the chapter's sentence, word for word.
func isSorted(l []api.Pair) bool {
	for i := 1; i < len(l); i++ {
		if string(l[i].Key) <= string(l[i-1].Key) {
			return false
		}
	}
	return true
}

// comesTo works out what a list comes to by a map from keys to values.
func comesTo(l []api.Pair) []string {
	values := map[string]string{}
	for _, p := range l {
		values[string(p.Key)] = string(p.Value)
	}
	var in []string
	for k := range values {
		in = append(in, k)
	}
	slices.Sort(in)
	var out []string
	for _, k := range in {
		out = append(out, k, values[k])
	}
	return out
}

// P4.1: the greatest key and the greatest value that may be, and those that are one byte more.
func TestCheck(t *testing.T) {
	for _, c := range []struct {
		key, value int
		want       api.Errno
	}{
		{0, 0, api.OK},
		{1, 0, api.OK},
		{0, 1, api.OK},
		{65535, 65535, api.OK},
		{65536, 0, api.OK},
		{0, 65536, api.OK},
		{65536, 65536, api.OK},
		{65537, 0, api.ErrBig},
		{0, 65537, api.ErrBig},
		{65537, 65536, api.ErrBig},
		{65536, 65537, api.ErrBig},
		{65537, 65537, api.ErrBig},
		{1 << 20, 1, api.ErrBig},
		{1, 1 << 20, api.ErrBig},
	} {
		p := api.Pair{Key: make([]byte, c.key), Value: make([]byte, c.value)}
		if got := Check(p); got != c.want {
			t.Errorf("Check of a key of %d and a value of %d bytes: %d, not %d", c.key, c.value, got, c.want)
		}
	}
	if got := Check(api.Pair{}); got != api.OK {
		t.Errorf("Check of nil and nil: %d", got)
	}
}

// P4.1: the first place at which a list is no map, and of one place the error named first.
func TestMapTable(t *testing.T) {
	most, more := string(make([]byte, 65536)), string(make([]byte, 65537))
	for _, c := range []struct {
		name  string
		l     []api.Pair
		place int
		want  api.Errno
	}{
		{"nil", nil, 0, api.OK},
		{"no pairs", []api.Pair{}, 0, api.OK},
		{"one pair", of("a"), 1, api.OK},
		{"the empty key", of(""), 1, api.OK},
		{"nil and nil", []api.Pair{{}}, 1, api.OK},
		{"the empty key ahead", of("", "\x00", "a"), 3, api.OK},
		{"the empty key behind", of("a", ""), 1, api.ErrOrder},
		{"the empty key twice", []api.Pair{{Key: nil}, {Key: []byte{}}}, 1, api.ErrTwice},
		{"keys that begin alike", of("a", "a\x00", "ab", "b"), 4, api.OK},
		{"the longer one ahead", of("a\x00", "a"), 1, api.ErrOrder},
		{"bytes from 128 on", of("\x7f", "\x80", "\xff"), 3, api.OK},
		{"bytes from 128 on, turned about", of("\x80", "\x7f"), 1, api.ErrOrder},
		{"turned about", of("c", "b", "a"), 1, api.ErrOrder},
		{"twice, side by side", of("a", "b", "b", "c"), 2, api.ErrTwice},
		{"twice, with other values", list("a", "1", "a", "2"), 1, api.ErrTwice},
		{"twice, apart", of("a", "b", "c", "b"), 3, api.ErrOrder},
		{"less than the one ahead, not than the first", of("a", "c", "b"), 2, api.ErrOrder},
		{"twice, then less", of("a", "a", ""), 1, api.ErrTwice},
		{"less, then twice", of("b", "a", "a"), 1, api.ErrOrder},
		{"less, then big", of("b", "a", more), 1, api.ErrOrder},
		{"twice, then big", of("b", "b", more), 1, api.ErrTwice},
		{"big, then less and twice", of(more, "", ""), 0, api.ErrBig},
		{"a key that is big and less", of("b", more), 1, api.ErrBig},
		{"a key that is big and twice", of(most, more, more), 1, api.ErrBig},
		{"a value that is big, a key that is less", list("b", "", "a", more), 1, api.ErrBig},
		{"a value that is big, a key that is twice", list("b", "", "b", more), 1, api.ErrBig},
		{"a value that is big, last", list("a", "", "b", more), 1, api.ErrBig},
		{"a value that is big, alone", list("a", more), 0, api.ErrBig},
		{"the greatest ones", list(most, most, "\x01", most), 2, api.OK},
		{"the greatest key, twice", list(most, "1", most, "2"), 1, api.ErrTwice},
		{"the greatest key, less", list("a", "1", most, "2"), 1, api.ErrOrder},
		{"values turned about", list("a", "2", "b", "1"), 2, api.OK},
	} {
		if n, e := Map(c.l); n != c.place || e != c.want {
			t.Errorf("%s: %d, %d, not %d, %d", c.name, n, e, c.place, c.want)
		}
	}
}

// P4.1: just MaxPairs, and one more, in a list with and without another fault.
func TestMapOfManyPairs(t *testing.T) {
	l := counted(1<<20 + 2)
	ask := func(name string, l []api.Pair, place int, want api.Errno) {
		t.Helper()
		if n, e := Map(l); n != place || e != want {
			t.Errorf("%s: %d, %d, not %d, %d", name, n, e, place, want)
		}
	}
	ask("one less than may be", l[:1<<20-1], 1<<20-1, api.OK)
	ask("as many as may be", l[:1<<20], 1<<20, api.OK)
	ask("one more", l[:1<<20+1], 1<<20, api.ErrBig)
	ask("two more", l, 1<<20, api.ErrBig)
	end := l[1<<20]
	l[1<<20] = l[1<<20-1]
	ask("one more, and its key twice", l[:1<<20+1], 1<<20, api.ErrBig)
	l[1<<20] = l[0]
	ask("one more, and its key less", l[:1<<20+1], 1<<20, api.ErrBig)
	l[1<<20] = end
	l[1<<20-1] = l[1<<20-2]
	ask("the last that may be is twice", l, 1<<20-1, api.ErrTwice)
	l[1<<20-1] = l[0]
	ask("the last that may be is less", l, 1<<20-1, api.ErrOrder)
	l[1<<20-1] = api.Pair{Key: []byte{1, 0}, Value: make([]byte, 65537)}
	ask("the last that may be is big", l, 1<<20-1, api.ErrBig)
}

// P4.1: every short list, against the chapter's words.
func TestMapOfEveryList(t *testing.T) {
	big := api.Pair{Key: []byte("a"), Value: make([]byte, 65537)}
	for _, l := range append(lists(5, append(of("", "a", "a\x00", "\xff"), big)), chanceLists(200)...) {
		place, want := len(l), api.OK
		for i := len(l) - 1; i >= 0; i-- {
			switch {
			case len(l[i].Value) > 65536:
				place, want = i, api.ErrBig
			case i > 0 && string(l[i].Key) == string(l[i-1].Key):
				place, want = i, api.ErrTwice
			case i > 0 && string(l[i].Key) < string(l[i-1].Key):
				place, want = i, api.ErrOrder
			}
		}
		if n, e := Map(l); n != place || e != want {
			t.Fatalf("Map of %d pairs: %d, %d, not %d, %d", len(l), n, e, place, want)
		}
	}
}

// P4.1: the chapter's example, and the edges.
func TestComeTable(t *testing.T) {
	for _, c := range []struct {
		name    string
		l, want []api.Pair
	}{
		{"the example", list("b", "1", "a", "2", "b", "3"), list("a", "2", "b", "3")},
		{"nil", nil, nil},
		{"no pairs", []api.Pair{}, nil},
		{"one pair", list("a", "1"), list("a", "1")},
		{"the empty key", list("", ""), list("", "")},
		{"nil and nil", []api.Pair{{}}, list("", "")},
		{"the empty key several times", []api.Pair{{Key: nil, Value: []byte("1")}, {Key: []byte{}, Value: []byte("2")}, {}}, list("", "")},
		{"an empty value last", list("a", "1", "a", ""), list("a", "")},
		{"an empty value first", list("a", "", "a", "1"), list("a", "1")},
		{"side by side", list("a", "9", "a", "1", "b", "2"), list("a", "1", "b", "2")},
		{"apart", list("a", "1", "b", "2", "c", "3", "a", "0"), list("a", "0", "b", "2", "c", "3")},
		{"one key alone, many times", list("a", "3", "a", "1", "a", "2", "a", "3", "a", "1"), list("a", "1")},
		{"the same pair twice", list("a", "1", "a", "1"), list("a", "1")},
		{"sorted already", list("", "1", "a", "2", "a\x00", "3", "b", "0"), list("", "1", "a", "2", "a\x00", "3", "b", "0")},
		{"turned about", list("b", "0", "a\x00", "3", "a", "2", "", "1"), list("", "1", "a", "2", "a\x00", "3", "b", "0")},
		{"bytes from 128 on", list("\xff", "1", "\x80", "2", "\x7f", "3"), list("\x7f", "3", "\x80", "2", "\xff", "1")},
	} {
		if got := show(Come(c.l)); !slices.Equal(got, show(c.want)) {
			t.Errorf("%s: %q, not %q", c.name, got, show(c.want))
		}
	}
}

// P4.1: pairs that may not be come to what they are, too.
func TestComeOfBigPairs(t *testing.T) {
	for _, size := range []int{65536, 65537, 1 << 20} {
		long := string(make([]byte, size))
		l := list(long, "1", "\x01", long, long, long)
		if got := show(Come(l)); !slices.Equal(got, []string{long, long, "\x01", long}) {
			t.Errorf("Come of keys and values of %d bytes is another list", size)
		}
	}
}

// P4.1 and P4.2: what a list comes to is sorted, and comes to itself.
func TestComeOfEveryList(t *testing.T) {
	for _, l := range append(lists(5, fewPairs()), chanceLists(500)...) {
		got := Come(l)
		if want := comesTo(l); !slices.Equal(show(got), want) {
			t.Fatalf("Come of %q: %q, not %q", show(l), show(got), want)
		}
		if !isSorted(got) {
			t.Fatalf("Come of %q: %q isn't sorted", show(l), show(got))
		}
		if n, e := Map(got); n != len(got) || e != api.OK {
			t.Fatalf("Come of %q: %q is no map: %d, %d", show(l), show(got), n, e)
		}
		if again := Come(got); !slices.Equal(show(again), show(got)) {
			t.Fatalf("Come of %q: %q", show(got), show(again))
		}
		if isSorted(l) && !slices.Equal(show(got), show(l)) {
			t.Fatalf("Come of the sorted list %q: %q", show(l), show(got))
		}
	}
}

// P4.2: Come of (Come of a, and b behind it) is Come of (a, and b behind it).
func TestComeByParts(t *testing.T) {
	for _, all := range [][][]api.Pair{lists(3, fewPairs()), chanceLists(100)} {
		for _, a := range all {
			for _, b := range all {
				got, want := Come(chain(Come(a), b)), Come(chain(a, b))
				if !slices.Equal(show(got), show(want)) {
					t.Fatalf("%q and %q: by parts %q, at once %q", show(a), show(b), show(got), show(want))
				}
			}
		}
	}
}

// P4.1 and P4.2: more pairs than a map has, turned about and without a pattern, with keys several times.
func TestComeOfManyPairs(t *testing.T) {
	want := counted(1<<20 + 1)
	wanted := show(want)
	turned := slices.Clone(want)
	slices.Reverse(turned)
	mixed := slices.Clone(want)
	r := rand.New(rand.NewSource(5))
	for i := range mixed {
		mixed[i].Value = []byte("old")
	}
	mixed = append(mixed, want...)
	// Each key's last value stands behind all old ones, whatever the order is among them.
	r.Shuffle(len(want), func(i, j int) { mixed[i], mixed[j] = mixed[j], mixed[i] })
	r.Shuffle(len(want), func(i, j int) {
		i, j = i+len(want), j+len(want)
		mixed[i], mixed[j] = mixed[j], mixed[i]
	})
	for name, l := range map[string][]api.Pair{"sorted": want, "turned about": turned, "mixed": mixed} {
		if got := show(Come(l)); !slices.Equal(got, wanted) {
			t.Errorf("%s: Come is another list", name)
		}
	}
}

// P4.1: a key that stands first, last or between, and one that would.
func TestFindTable(t *testing.T) {
	l := list("", "1", "a", "2", "a\x00", "3", "c", "4", "\x80", "5")
	for _, c := range []struct {
		l     []api.Pair
		key   string
		place int
		want  bool
	}{
		{nil, "", 0, false},
		{nil, "a", 0, false},
		{[]api.Pair{}, "a", 0, false},
		{of(""), "", 0, true},
		{[]api.Pair{{}}, "", 0, true},
		{of(""), "\x00", 1, false},
		{of("a"), "", 0, false},
		{of("a"), "A", 0, false},
		{of("a"), "a", 0, true},
		{of("a"), "a\x00", 1, false},
		{of("a"), "b", 1, false},
		{l, "", 0, true},
		{l, "\x00", 1, false},
		{l, "a", 1, true},
		{l, "a\x00", 2, true},
		{l, "a\x00\x00", 3, false},
		{l, "b", 3, false},
		{l, "c", 3, true},
		{l, "\x7f", 4, false},
		{l, "\x80", 4, true},
		{l, "\x80\x00", 5, false},
		{l, "\xff", 5, false},
	} {
		if n, ok := Find(c.l, []byte(c.key)); n != c.place || ok != c.want {
			t.Errorf("Find(%q, %q): %d, %v, not %d, %v", show(c.l), c.key, n, ok, c.place, c.want)
		}
	}
	for _, key := range [][]byte{nil, {}} {
		if n, ok := Find(l, key); n != 0 || !ok {
			t.Errorf("Find of %#v: %d, %v", key, n, ok)
		}
		if n, ok := Find(l[1:], key); n != 0 || ok {
			t.Errorf("Find of %#v, which isn't there: %d, %v", key, n, ok)
		}
	}
}

// P4.1: every key in lists of each length: it stands behind just those that are less.
func TestFindEveryKey(t *testing.T) {
	all := counted(300)
	for size := range len(all) {
		// Every second key is left out, so that it would stand between two others.
		var l []api.Pair
		for i := 1; i < size; i += 2 {
			l = append(l, all[i])
		}
		for i, p := range all[:size] {
			n, ok := Find(l, p.Key)
			if n != i/2 || ok != (i%2 == 1 && i < size) {
				t.Fatalf("Find of key %d in %d pairs: %d, %v", i, len(l), n, ok)
			}
		}
	}
}

// P4.1: keys up to the greatest, and more than may be.
func TestFindLongKeys(t *testing.T) {
	long := bytes.Repeat([]byte{7}, 65538)
	l := []api.Pair{{Key: long[:65535]}, {Key: long[:65536]}, {Key: long[:65538]}}
	for size, want := range map[int]int{65534: 0, 65535: 0, 65536: 1, 65537: 2, 65538: 2} {
		if n, ok := Find(l, long[:size]); n != want || ok != (size != 65534 && size != 65537) {
			t.Errorf("Find of a key of %d bytes: %d, %v", size, n, ok)
		}
	}
}

// P4.1: of a list with as many pairs as may be.
func TestFindAmongMany(t *testing.T) {
	l := counted(1 << 20)
	for i := 0; i < len(l); i += 1001 {
		if n, ok := Find(l, l[i].Key); n != i || !ok {
			t.Fatalf("Find of key %d: %d, %v", i, n, ok)
		}
		if n, ok := Find(l, keys.Next(l[i].Key)); n != i+1 || ok {
			t.Fatalf("Find of the key behind key %d: %d, %v", i, n, ok)
		}
	}
}

// P4.1
func TestSameTable(t *testing.T) {
	long := string(bytes.Repeat([]byte("x"), 65536))
	for _, c := range []struct {
		name string
		a, b []api.Pair
		want bool
	}{
		{"nil and nil", nil, nil, true},
		{"nil and no pairs", nil, []api.Pair{}, true},
		{"nil and a pair without bytes", nil, []api.Pair{{}}, false},
		{"nil and empty bytes", []api.Pair{{}}, []api.Pair{{Key: []byte{}, Value: []byte{}}}, true},
		{"one pair", list("a", "1"), list("a", "1"), true},
		{"another value", list("a", "1"), list("a", "2"), false},
		{"another key", list("a", "1"), list("b", "1"), false},
		{"an empty value", list("a", "1"), list("a", ""), false},
		{"an empty key", list("a", "1"), list("", "1"), false},
		{"a longer key", list("a", "1"), list("a\x00", "1"), false},
		{"a longer value", list("a", "1"), list("a", "1\x00"), false},
		{"cut at another place", list("a", "b1"), list("ab", "1"), false},
		{"key and value by turns", list("a", "1"), list("1", "a"), false},
		{"unlike length", list("a", "1", "b", "2"), list("a", "1"), false},
		{"unlike length, and empty", list("", "", "", ""), list("", ""), false},
		{"another value last", list("a", "1", "b", "2", "c", "3"), list("a", "1", "b", "2", "c", "4"), false},
		{"another value first", list("a", "1", "b", "2"), list("a", "2", "b", "2"), false},
		{"another key between", list("a", "1", "b", "2", "c", "3"), list("a", "1", "bb", "2", "c", "3"), false},
		{"in another order", list("a", "1", "b", "2"), list("b", "2", "a", "1"), false},
		{"values by turns", list("a", "1", "b", "2"), list("a", "2", "b", "1"), false},
		{"no map, but the same", list("b", "1", "a", "2", "b", "3"), list("b", "1", "a", "2", "b", "3"), true},
		{"another last byte of a long key", list(long+"y", "1"), list(long+"z", "1"), false},
		{"another last byte of a long value", list("a", long+"y"), list("a", long+"z"), false},
		{"long ones", list(long, long), list(long, long), true},
	} {
		if got := Same(c.a, c.b); got != c.want {
			t.Errorf("%s: %v", c.name, got)
		}
		if got := Same(c.b, c.a); got != c.want {
			t.Errorf("%s, turned: %v", c.name, got)
		}
	}
}

// P4.1: every two short lists.
func TestSameOfEveryTwo(t *testing.T) {
	all := append(lists(3, fewPairs()), chanceLists(30)...)
	for _, a := range all {
		for _, b := range all {
			if got, want := Same(a, b), slices.Equal(show(a), show(b)); got != want {
				t.Fatalf("Same of %q and %q: %v", show(a), show(b), got)
			}
		}
	}
}

// P4.1
func TestOwn(t *testing.T) {
	for _, l := range append(lists(4, fewPairs()), chanceLists(200)...) {
		if got := Own(l); !slices.Equal(show(got), show(l)) {
			t.Fatalf("Own of %q: %q", show(l), show(got))
		}
	}
	for _, l := range [][]api.Pair{nil, {}} {
		if got := Own(l); len(got) != 0 {
			t.Errorf("Own(%#v): %q", l, show(got))
		}
	}
	long := string(bytes.Repeat([]byte("x"), 65537))
	if l := list(long, long, long, "", "", long); !slices.Equal(show(Own(l)), show(l)) {
		t.Error("Own of long keys and values is another list")
	}
}

// all is every call of a list, with answers as they are held against each other.
func all(l []api.Pair, key []byte) []string {
	var out []string
	for _, p := range l {
		out = append(out, string(rune('0'+Check(p))))
	}
	n, e := Map(l)
	out = append(out, string(rune('0'+n)), string(rune('0'+e)))
	n, ok := Find(l, key)
	if ok {
		n += 1000
	}
	out = append(out, string(rune('0'+n)))
	if Same(l, l) {
		out = append(out, "same")
	}
	return append(append(out, show(Come(l))...), show(Own(l))...)
}

// P4.1, rules 2 and 7: nothing handed in is written into, and what lies behind a length is neither read nor written.
func TestWhatIsHandedIn(t *testing.T) {
	for _, l := range append(lists(3, fewPairs()), chanceLists(100)...) {
		for _, behind := range []byte{0, 'a', 255} {
			tail := bytes.Repeat([]byte{behind}, 9)
			full := make([]api.Pair, 0, len(l)+3)
			for _, p := range l {
				full = append(full, api.Pair{Key: append(bytes.Clone(p.Key), tail...)[:len(p.Key)], Value: append(bytes.Clone(p.Value), tail...)[:len(p.Value)]})
			}
			full = append(full, api.Pair{Key: tail[:1], Value: tail}, api.Pair{}, api.Pair{Key: make([]byte, 65537)})
			before := show(full)
			key := append([]byte("a"), tail...)
			if got, want := all(full[:len(l)], key[:1]), all(slices.Clip(Own(l)), []byte("a")); !slices.Equal(got, want) {
				t.Fatalf("%q with memory behind it: %q, not %q", show(l), got, want)
			}
			if !Same(full[:len(l)], l) || !Same(l, full[:len(l)]) {
				t.Fatalf("%q is another list with memory behind it", show(l))
			}
			if !slices.Equal(show(full), before) {
				t.Fatalf("%q was written into", show(l))
			}
			for i, p := range full[:len(l)] {
				if !bytes.Equal(p.Key[len(p.Key):len(p.Key)+9], tail) || !bytes.Equal(p.Value[len(p.Value):len(p.Value)+9], tail) {
					t.Fatalf("%q was written into behind the length of pair %d", show(l), i)
				}
			}
			if !bytes.Equal(key[1:], tail) || key[0] != 'a' {
				t.Fatal("a key was written into")
			}
		}
	}
}

// P4.1, rule 2: the order of a list that is handed in stays, with each pair's own memory.
func TestComeLeavesItsList(t *testing.T) {
	l := list("c", "1", "a", "2", "c", "3", "b", "4")
	first := make([]*byte, len(l))
	for i, p := range l {
		first[i] = &p.Key[0]
	}
	Come(l)
	for i, p := range l {
		if &p.Key[0] != first[i] {
			t.Errorf("at place %d is another pair", i)
		}
	}
}

// spoil writes over all the memory that a list has, that behind lengths too.
func spoil(b []byte) {
	b = b[:cap(b)]
	for i := range b {
		b[i] ^= 0x55
	}
}

// P4.1, rule 2: no answer shares memory with what was handed in, nor two lists of one answer.
func TestAnswersAreNewMemory(t *testing.T) {
	for name, call := range map[string]func([]api.Pair) []api.Pair{"Come": Come, "Own": Own} {
		for _, l := range append(lists(3, fewPairs()), chanceLists(50)...) {
			l = Own(l)
			before := show(l)
			got := call(l)
			want := show(got)
			for i := range l {
				spoil(l[i].Key)
				spoil(l[i].Value)
			}
			if !slices.Equal(show(got), want) {
				t.Fatalf("%s of %q shares bytes with it", name, before)
			}
			clear(l[:cap(l)])
			if !slices.Equal(show(got), want) {
				t.Fatalf("%s of %q shares its list with it", name, before)
			}
			for i := range got {
				spoil(got[i].Key)
				want[2*i] = string(got[i].Key)
				if !slices.Equal(show(got), want) {
					t.Fatalf("%s of %q: the key at %d shares memory with another list", name, before, i)
				}
				spoil(got[i].Value)
				want[2*i+1] = string(got[i].Value)
				if !slices.Equal(show(got), want) {
					t.Fatalf("%s of %q: the value at %d shares memory with another list", name, before, i)
				}
			}
		}
	}
}

// P4.1, rule 2: pairs that share memory with each other are answered as ones that don't.
func TestSharedPairsAreOwned(t *testing.T) {
	one := []byte("abcdef")
	l := []api.Pair{{Key: one[:2], Value: one[1:4]}, {Key: one[:3], Value: one[1:4]}, {Key: one[2:4], Value: one}}
	for name, call := range map[string]func([]api.Pair) []api.Pair{"Come": Come, "Own": Own} {
		got := call(l)
		got[0].Key[0], got[0].Value[0] = 'z', 'y'
		got[0].Key = append(got[0].Key, "xxx"...)
		want := []string{"zbxxx", "ycd", "abc", "bcd", "cd", "abcdef"}
		if !slices.Equal(show(got), want) {
			t.Errorf("%s: %q, not %q", name, show(got), want)
		}
		if string(one) != "abcdef" {
			t.Errorf("%s: what was handed in is %q", name, one)
		}
	}
}
