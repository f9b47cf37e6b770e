package keys

import (
	"bytes"
	"math/rand"
	"strings"
	"testing"

	"brushwood/api"
)

// edgeBytes has the ends of a byte, those about 128, where a sign would stand, and one of letters.
var edgeBytes = []byte{0, 1, 'a', 127, 128, 254, 255}

// shortKeys is every key of at most size of the edge bytes.
func shortKeys(size int) [][]byte {
	all := [][]byte{{}}
	last := all
	for range size {
		var longer [][]byte
		for _, k := range last {
			for _, c := range edgeBytes {
				longer = append(longer, append(bytes.Clone(k), c))
			}
		}
		all = append(all, longer...)
		last = longer
	}
	return all
}

// longKeys has keys that differ late, in a byte or in their length, up to the greatest that a map takes.
func longKeys() [][]byte {
	var l [][]byte
	for _, size := range []int{7, 8, 9, 31, 32, 33, 1000, api.MaxKey} {
		for _, c := range edgeBytes {
			k := bytes.Repeat([]byte{255}, size)
			k[size-1] = c
			l = append(l, k, bytes.Repeat([]byte{c}, size))
		}
	}
	return l
}

// chanceKeys has keys without a pattern, many of which begin alike.
func chanceKeys(count int) [][]byte {
	r := rand.New(rand.NewSource(3))
	l := [][]byte{nil}
	for range count {
		k := bytes.Clone(l[r.Intn(len(l))])
		for range r.Intn(4) {
			k = append(k, byte(r.Intn(256)))
		}
		l = append(l, k)
	}
	return l
}

// inCommon counts by the chapter's words: both have that many bytes, and they are the same.
func inCommon(a, b []byte) int {
	n := 0
	for n < len(a) && n < len(b) && a[n] == b[n] {
		n++
	}
	return n
}

// isLess is the chapter's sentence on two keys, word for word.
func isLess(a, b []byte) bool {
	n := inCommon(a, b)
	if n < len(a) && n < len(b) {
		return int(a[n]) < int(b[n])
	}
	return len(a) < len(b)
}

// beginsWith asks one byte after the other.
func beginsWith(k, p []byte) bool {
	return inCommon(k, p) == len(p)
}

// inStretch is the chapter's sentence on a stretch, word for word.
func inStretch(s Span, k []byte) bool {
	return !isLess(k, s.From) && (!s.Closed || isLess(k, s.To))
}

// checkTwo holds all that is told of two keys against the chapter's words.
func checkTwo(t *testing.T, a, b []byte) {
	t.Helper()
	want := 0
	if isLess(a, b) {
		want = -1
	} else if isLess(b, a) {
		want = 1
	}
	if got := Compare(a, b); got != want {
		t.Fatalf("Compare(% x, % x): %d, not %d", a, b, got, want)
	}
	if got, want := Common(a, b), inCommon(a, b); got != want {
		t.Fatalf("Common(% x, % x): %d, not %d", a, b, got, want)
	}
	if got, want := Begins(a, b), beginsWith(a, b); got != want {
		t.Fatalf("Begins(% x, % x): %v, not %v", a, b, got, want)
	}
}

// P3.1: the chapter's first example, and the edges that it names.
func TestCompareTable(t *testing.T) {
	for _, c := range []struct {
		a, b         string
		want, common int
		aOfB, bOfA   bool // a begins with b, b begins with a
	}{
		{"\x61", "\x61\x00", -1, 1, false, true},
		{"", "", 0, 0, true, true},
		{"", "\x00", -1, 0, false, true},
		{"", "\xff", -1, 0, false, true},
		{"a", "a", 0, 1, true, true},
		{"a", "b", -1, 0, false, false},
		{"a", "A", 1, 0, false, false},
		{"ab", "b", -1, 0, false, false},
		{"a\xff\xff", "b", -1, 0, false, false},
		{"abc", "abd", -1, 2, false, false},
		{"abc", "ab", 1, 2, true, false},
		{"\x7f", "\x80", -1, 0, false, false},
		{"\xff", "\x00", 1, 0, false, false},
		{"\xff", "\xff\x00", -1, 1, false, true},
		{"\x00", "\x00\x00", -1, 1, false, true},
		{"\x00\x01", "\x00\x00\xff", 1, 1, false, false},
		{"aa", "ab\x00", -1, 1, false, false},
		{"ba", "aa", 1, 0, false, false},
	} {
		a, b := []byte(c.a), []byte(c.b)
		if got := Compare(a, b); got != c.want {
			t.Errorf("Compare(%q, %q): %d, not %d", a, b, got, c.want)
		}
		if got := Compare(b, a); got != -c.want {
			t.Errorf("Compare(%q, %q): %d, not %d", b, a, got, -c.want)
		}
		if n, m := Common(a, b), Common(b, a); n != c.common || m != c.common {
			t.Errorf("Common of %q and %q: %d, and turned %d, not %d", a, b, n, m, c.common)
		}
		if got := Begins(a, b); got != c.aOfB {
			t.Errorf("Begins(%q, %q): %v", a, b, got)
		}
		if got := Begins(b, a); got != c.bOfA {
			t.Errorf("Begins(%q, %q): %v", b, a, got)
		}
	}
}

// P3.1: no bytes and nil are one.
func TestNoBytesAndNil(t *testing.T) {
	none := [][]byte{nil, {}}
	for _, a := range none {
		for _, b := range none {
			if Compare(a, b) != 0 || Common(a, b) != 0 || !Begins(a, b) {
				t.Errorf("%#v and %#v are told apart", a, b)
			}
			if s := (Span{From: a, To: b, Closed: true}); !s.Empty() || s.Has(nil) || s.Has([]byte{}) {
				t.Errorf("%#v has a key", s)
			}
			if s := (Span{From: a, To: b}); s.Empty() || !s.Has(nil) || !s.Has([]byte{}) {
				t.Errorf("%#v lacks a key", s)
			}
		}
		if got := Next(a); !bytes.Equal(got, []byte{0}) {
			t.Errorf("Next(%#v): % x", a, got)
		}
		if got, ok := Behind(a); ok || len(got) != 0 {
			t.Errorf("Behind(%#v): % x, %v", a, got, ok)
		}
		if s := Of(a); len(s.From) != 0 || len(s.To) != 0 || s.Closed || s.Empty() || !s.Has(nil) || !s.Has([]byte{255}) {
			t.Errorf("Of(%#v): %#v", a, s)
		}
	}
}

// P3.1: each byte against each, alone and behind others that are the same.
func TestEveryTwoBytes(t *testing.T) {
	for _, ahead := range []string{"", "\xff", "long enough to be more than a word of eight bytes"} {
		for i := range 256 {
			for j := range 256 {
				checkTwo(t, append([]byte(ahead), byte(i)), append([]byte(ahead), byte(j)))
			}
		}
	}
}

// P3.1
func TestEveryTwoKeys(t *testing.T) {
	for _, l := range [][][]byte{shortKeys(3), longKeys(), chanceKeys(300)} {
		for _, a := range l {
			for _, b := range l {
				checkTwo(t, a, b)
			}
		}
	}
}

// P3.2: of two unlike keys just one is less, and a key isn't less than itself.
func TestOrderIsWhole(t *testing.T) {
	for _, l := range [][][]byte{shortKeys(3), longKeys(), chanceKeys(300)} {
		for _, a := range l {
			for _, b := range l {
				ab, ba := Compare(a, b), Compare(b, a)
				if ab != -ba || (ab == 0) != bytes.Equal(a, b) {
					t.Fatalf("Compare of % x and % x: %d, and turned %d", a, b, ab, ba)
				}
			}
		}
	}
}

// P3.2: what is less than something less is less.
func TestOrderCarriesOn(t *testing.T) {
	for _, l := range [][][]byte{shortKeys(2), chanceKeys(100)} {
		for _, a := range l {
			for _, b := range l {
				if Compare(a, b) != -1 {
					continue
				}
				for _, c := range l {
					if Compare(b, c) == -1 && Compare(a, c) != -1 {
						t.Fatalf("% x, % x and % x are less one by one, but not the first than the last", a, b, c)
					}
				}
			}
		}
	}
}

// P3.1
func TestNextTable(t *testing.T) {
	for k, want := range map[string]string{
		"":          "\x00",
		"a":         "a\x00",
		"\x00":      "\x00\x00",
		"\xff":      "\xff\x00",
		"a\xff\xff": "a\xff\xff\x00",
	} {
		if got := Next([]byte(k)); string(got) != want {
			t.Errorf("Next(%q): %q, not %q", k, got, want)
		}
	}
	for _, k := range longKeys() {
		if got := Next(k); len(got) != len(k)+1 || !bytes.Equal(got[:len(k)], k) || got[len(k)] != 0 {
			t.Errorf("Next of a key of %d bytes is another one than it with a byte 0 behind it", len(k))
		}
	}
}

// P3.3: no key is between k and Next(k).
func TestNothingBeforeNext(t *testing.T) {
	asked := append(shortKeys(4), chanceKeys(300)...)
	for _, k := range append(shortKeys(2), chanceKeys(50)...) {
		next := Next(k)
		if Compare(k, next) != -1 {
			t.Fatalf("Next(% x): % x isn't more", k, next)
		}
		for _, x := range asked {
			if Compare(k, x) == -1 && Compare(x, next) == -1 {
				t.Fatalf("% x is between % x and % x", x, k, next)
			}
		}
	}
}

// P3.1: the chapter's second example, and the edges that it names.
func TestBehindTable(t *testing.T) {
	for p, want := range map[string]string{
		"\x61\xff":         "\x62",
		"a":                "b",
		"ab":               "ac",
		"\x00":             "\x01",
		"a\x00":            "a\x01",
		"\x7f":             "\x80",
		"\xfe":             "\xff",
		"\xfe\xff":         "\xff",
		"\xff\xfe":         "\xff\xff",
		"\xff\xfe\xff":     "\xff\xff",
		"a\xff\xff":        "b",
		"a\xffb":           "a\xffc",
		"a\xffb\xff":       "a\xffc",
		"\x00\xff":         "\x01",
		"\xff\x00\xff\xff": "\xff\x01",
	} {
		if got, ok := Behind([]byte(p)); !ok || string(got) != want {
			t.Errorf("Behind(%q): %q, %v, not %q", p, got, ok, want)
		}
	}
	for _, p := range []string{"", "\xff", "\xff\xff", strings.Repeat("\xff", api.MaxKey)} {
		if got, ok := Behind([]byte(p)); ok || len(got) != 0 {
			t.Errorf("Behind of %d bytes 255: %q, %v", len(p), got, ok)
		}
	}
	long := append([]byte("a"), bytes.Repeat([]byte{255}, api.MaxKey-1)...)
	if got, ok := Behind(long); !ok || string(got) != "b" {
		t.Errorf("Behind of a and many bytes 255: %q, %v", got, ok)
	}
}

// P3.1: Behind is more than each key that begins with p, and no lesser key is.
func TestBehindIsTheLeast(t *testing.T) {
	asked := shortKeys(4)
	for _, p := range shortKeys(3) {
		behind, ok := Behind(p)
		if ok != (bytes.Count(p, []byte{255}) < len(p)) {
			t.Fatalf("Behind(% x): %v", p, ok)
		}
		for _, x := range asked {
			// A key that is more than p, but doesn't begin with it, is behind all that do.
			past := isLess(p, x) && !beginsWith(x, p)
			if want := ok && !isLess(x, behind); past != want {
				t.Fatalf("Behind(% x): % x, %v; but % x", p, behind, ok, x)
			}
		}
	}
}

// P3.1
func TestOfTable(t *testing.T) {
	for _, c := range []struct {
		p, to  string
		closed bool
	}{
		{"", "", false},
		{"\xff", "", false},
		{"\xff\xff", "", false},
		{"a", "b", true},
		{"ab", "ac", true},
		{"a\xff", "b", true},
		{"\x00", "\x01", true},
		{"\xfe", "\xff", true},
		{"\xff\x00", "\xff\x01", true},
	} {
		s := Of([]byte(c.p))
		if string(s.From) != c.p || string(s.To) != c.to || s.Closed != c.closed || s.Empty() {
			t.Errorf("Of(%q): %v", c.p, s)
		}
	}
}

// P3.3: a key is in Of(p) just if it begins with p.
func TestOfHasWhatBegins(t *testing.T) {
	for _, l := range [][][]byte{shortKeys(3), longKeys(), chanceKeys(300)} {
		for _, p := range l {
			s := Of(p)
			if !bytes.Equal(s.From, p) {
				t.Fatalf("Of(% x) is from % x on", p, s.From)
			}
			for _, k := range l {
				if s.Has(k) != beginsWith(k, p) {
					t.Fatalf("Of(% x).Has(% x): %v", p, k, s.Has(k))
				}
			}
		}
	}
}

// P3.1
func TestSpanTable(t *testing.T) {
	for _, c := range []struct {
		name     string
		s        Span
		empty    bool
		has, not []string
	}{
		{"closed", Span{From: []byte("b"), To: []byte("d"), Closed: true}, false, []string{"b", "b\x00", "c", "c\xff\xff"}, []string{"", "a\xff", "d", "d\x00", "\xff"}},
		{"a key alone", Span{From: []byte("b"), To: []byte("b\x00"), Closed: true}, false, []string{"b"}, []string{"", "a\xff", "b\x00", "b\x00\x00", "c"}},
		{"not closed", Span{From: []byte("b")}, false, []string{"b", "b\x00", "\xff\xff"}, []string{"", "a\xff"}},
		{"not closed, To is more", Span{From: []byte("b"), To: []byte("d")}, false, []string{"b", "d", "\xff"}, []string{"", "a\xff"}},
		{"not closed, To is From", Span{From: []byte("b"), To: []byte("b")}, false, []string{"b", "c"}, []string{"a"}},
		{"not closed, To is less", Span{From: []byte("b"), To: []byte("a")}, false, []string{"b", "c"}, []string{"", "a", "a\xff"}},
		{"To is From", Span{From: []byte("b"), To: []byte("b"), Closed: true}, true, nil, []string{"", "a", "b", "b\x00", "c"}},
		{"To is less", Span{From: []byte("c"), To: []byte("a"), Closed: true}, true, nil, []string{"", "a", "b", "c", "d"}},
		{"To is what From begins with", Span{From: []byte("ab"), To: []byte("a"), Closed: true}, true, nil, []string{"", "a", "aa", "ab", "b"}},
		{"To is empty", Span{From: []byte("a"), Closed: true}, true, nil, []string{"", "a", "b"}},
		{"both are empty, closed", Span{Closed: true}, true, nil, []string{"", "\x00", "a", "\xff"}},
		{"both are empty, not closed", Span{}, false, []string{"", "\x00", "a", "\xff"}, nil},
		{"the empty key alone", Span{To: []byte{0}, Closed: true}, false, []string{""}, []string{"\x00", "a"}},
		{"bytes from 128 on", Span{From: []byte{127}, To: []byte{129}, Closed: true}, false, []string{"\x7f", "\x80", "\x80\xff"}, []string{"\x00", "\x7e", "\x81", "\xff"}},
	} {
		if got := c.s.Empty(); got != c.empty {
			t.Errorf("%s: Empty: %v", c.name, got)
		}
		for _, k := range c.has {
			if !c.s.Has([]byte(k)) {
				t.Errorf("%s: it hasn't %q", c.name, k)
			}
		}
		for _, k := range c.not {
			if c.s.Has([]byte(k)) {
				t.Errorf("%s: it has %q", c.name, k)
			}
		}
	}
}

// P3.1: each stretch of short keys, against the chapter's words; it is empty just if it has no key.
func TestEveryStretch(t *testing.T) {
	bounds := shortKeys(2)
	// From itself is in each stretch that isn't empty: asking the bounds tells which have no key.
	for _, from := range bounds {
		for _, to := range bounds {
			for _, closed := range []bool{false, true} {
				s := Span{From: from, To: to, Closed: closed}
				none := true
				for _, k := range bounds {
					if s.Has(k) != inStretch(s, k) {
						t.Fatalf("%v: Has(% x): %v", s, k, s.Has(k))
					}
					none = none && !inStretch(s, k)
				}
				if s.Empty() != none {
					t.Fatalf("%v: Empty: %v", s, s.Empty())
				}
			}
		}
	}
}

// callAll asks all there is of two keys, and of the stretches that they make.
func callAll(a, b []byte) (numbers []int, answers [][]byte, truths []bool) {
	behind, ok := Behind(a)
	of := Of(a)
	open, closed := Span{From: a, To: b}, Span{From: a, To: b, Closed: true}
	numbers = []int{Compare(a, b), Common(a, b)}
	answers = [][]byte{Next(a), behind, of.From, of.To}
	truths = []bool{Begins(a, b), ok, of.Closed, of.Has(b), of.Empty(), open.Has(b), closed.Has(a), closed.Has(b), open.Empty(), closed.Empty()}
	return numbers, answers, truths
}

// sameAnswers tells whether two rounds of callAll answered the same.
func sameAnswers(a, b, c, d []byte) bool {
	n, l, w := callAll(a, b)
	m, k, v := callAll(c, d)
	same := true
	for i := range n {
		same = same && n[i] == m[i]
	}
	for i := range l {
		same = same && bytes.Equal(l[i], k[i])
	}
	for i := range w {
		same = same && w[i] == v[i]
	}
	return same
}

// with is a new list of k and c behind it.
func with(k []byte, c byte) []byte {
	return append(bytes.Clone(k), c)
}

// Rule 7 of the document: what lies behind a list's length is neither read nor written; rule 2: nor is an argument written into.
func TestArgumentsStayAsTheyAre(t *testing.T) {
	for _, a := range shortKeys(2) {
		for _, b := range shortKeys(2) {
			for _, c := range edgeBytes {
				roomA, roomB := with(a, c), with(b, c)
				if !sameAnswers(roomA[:len(a)], roomB[:len(b)], bytes.Clone(a), bytes.Clone(b)) {
					t.Fatalf("% x, % x: bytes behind their length are read", a, b)
				}
				if !bytes.Equal(roomA, with(a, c)) || !bytes.Equal(roomB, with(b, c)) {
					t.Fatalf("% x, % x: what was handed in was written into", a, b)
				}
			}
		}
	}
}

// turned writes into all of a list's memory, also behind its length.
func turned(k []byte) {
	for i := range k[:cap(k)] {
		k[:cap(k)][i] ^= 0x55
	}
}

// Rule 2 of the document: no answer shares memory with an argument.
func TestAnswersShareNothingWithArguments(t *testing.T) {
	for _, k := range shortKeys(3) {
		room := append(make([]byte, 0, len(k)+8), k...)
		_, answers, _ := callAll(room, room)
		_, want, _ := callAll(bytes.Clone(k), bytes.Clone(k))
		turned(room)
		for i := range answers {
			if !bytes.Equal(answers[i], want[i]) {
				t.Fatalf("% x: the answer %d hangs on what was handed in", k, i)
			}
		}
		turned(room)
		for i := range answers {
			turned(answers[i])
		}
		if !bytes.Equal(room, k) {
			t.Fatalf("% x: writing into an answer wrote into what was handed in", k)
		}
	}
}

// Rule 2 of the document: neither do two answers, nor the two ends of one stretch.
func TestAnswersShareNothingWithEachOther(t *testing.T) {
	for _, k := range shortKeys(3) {
		_, first, _ := callAll(k, k)
		_, second, _ := callAll(k, k)
		all := append(first, second...)
		for i := range all {
			var before [][]byte
			for _, x := range all {
				before = append(before, bytes.Clone(x))
			}
			turned(all[i])
			for j := range all {
				if j != i && !bytes.Equal(all[j], before[j]) {
					t.Fatalf("% x: the answers %d and %d share memory", k, i, j)
				}
			}
		}
	}
}
