package meter

import (
	"bytes"
	"math"
	"math/big"
	"math/rand"
	"testing"

	"brushwood/api"
	"brushwood/keys"
)

// fixed is what the bound for no keys is.
const fixed = 17

// most is the bound for as many keys as a map may have.
const most = 137

// isBound is the chapter's definition: of the whole numbers k with 2^k not above n + 1 to the power 6, the greatest one.
func isBound(n, bound int) bool {
	power := new(big.Int).Exp(big.NewInt(int64(n)+1), big.NewInt(6), nil)
	k := bound - fixed
	if k < 0 {
		return false
	}
	notAbove := new(big.Int).Lsh(big.NewInt(1), uint(k))
	above := new(big.Int).Lsh(big.NewInt(1), uint(k)+1)
	return notAbove.Cmp(power) <= 0 && above.Cmp(power) > 0
}

// isLess is layer 3's sentence on two keys, word for word.
func isLess(a, b []byte) bool {
	for i := 0; i < len(a) && i < len(b); i++ {
		if a[i] != b[i] {
			return a[i] < b[i]
		}
	}
	return len(a) < len(b)
}

// order is what layer 3's Compare tells, by that sentence.
func order(a, b []byte) int {
	if isLess(a, b) {
		return -1
	}
	if isLess(b, a) {
		return 1
	}
	return 0
}

// sampleKeys has no bytes in each of their forms, beginnings of others, edge bytes, and long keys that differ late.
func sampleKeys() [][]byte {
	l := [][]byte{nil, {}, []byte("abc")[:0]}
	for _, s := range []string{
		"a", "a", "b", "ab", "abc", "abd", "a\x00", "a\x00\x00", "a\xff", "A", "\x00", "\x00\x00",
		"\x01", "\x7f", "\x80", "\xfe", "\xff", "\xff\x00", "\xff\xff", "b\x00", "aa", "ba",
	} {
		l = append(l, []byte(s))
	}
	for _, size := range []int{7, 8, 9, 64, 1000, api.MaxKey, api.MaxKey + 1} {
		for _, c := range []byte{0, 'a', 128, 255} {
			k := bytes.Repeat([]byte{'a'}, size)
			k[size-1] = c
			l = append(l, k)
		}
	}
	r := rand.New(rand.NewSource(9))
	for range 40 {
		k := make([]byte, r.Intn(6))
		r.Read(k)
		l = append(l, k)
	}
	return l
}

// ends has the numbers at which a reckoning goes wrong first.
func ends() []int {
	return []int{
		math.MinInt, math.MinInt + 1, math.MinInt + fixed, -1 << 40, -1 << 32, -1<<32 + 1, -1 << 20, -18, -17, -16, -2, -1,
		0, 1, 2, 3, 4, 16, 17, 18, 22, 23, 24, 28, 29, 30, 136, 137, 138, 1<<20 - 1, 1 << 20, 1<<20 + 1,
		1<<31 - 1, 1 << 31, 1 << 32, 1<<32 + 1, 1 << 40, 1<<62 + 5, math.MaxInt - fixed, math.MaxInt - 1, math.MaxInt,
	}
}

// counts fails unless a meter has just these numbers.
func counts(t *testing.T, m *Meter, visits, compares int) {
	t.Helper()
	if *m != (Meter{Visits: visits, Compares: compares}) {
		t.Fatalf("the meter has %d and %d, not %d and %d", m.Visits, m.Compares, visits, compares)
	}
}

// P9.1: the chapter's examples, and numbers worked out by hand.
func TestBoundTable(t *testing.T) {
	for _, c := range []struct{ n, want int }{
		{0, 17},  // 2^0 is 1
		{1, 23},  // 2^6 is 2^6
		{2, 26},  // 3^6 is 729: from 2^9, 512, on
		{3, 29},  // 4^6 is 2^12
		{4, 30},  // 5^6 is 15625: from 2^13, 8192, on
		{5, 32},  // 6^6 is 46656: from 2^15, 32768, on
		{6, 33},  // 7^6 is 117649: from 2^16, 65536, on
		{7, 35},  // 8^6 is 2^18
		{8, 36},  // 9^6 is 531441: from 2^19, 524288, on
		{9, 36},  // 10^6 is below 2^20, 1048576
		{10, 37}, // 11^6 is 1771561: from 2^20 on
		{1023, 77},
		{1<<20 - 1, most},
		{1 << 20, most},
	} {
		if got := Bound(c.n); got != c.want {
			t.Errorf("Bound(%d): %d, not %d", c.n, got, c.want)
		}
	}
}

// P9.1: n + 1 is a power of two: the logarithm is whole; one key less, and the bound is less.
func TestBoundAboutPowersOfTwo(t *testing.T) {
	for e := range 21 {
		whole := 1<<e - 1
		if got, want := Bound(whole), fixed+6*e; got != want {
			t.Errorf("Bound(%d): %d, not %d", whole, got, want)
		}
		if e > 0 {
			if got, want := Bound(whole-1), fixed+6*e; got >= want {
				t.Errorf("Bound(%d): %d, which isn't below %d", whole-1, got, want)
			}
		}
		for _, n := range []int{1<<e - 2, 1<<e - 1, 1 << e, 1<<e + 1} {
			if n < 0 || n > api.MaxPairs {
				continue
			}
			if got := Bound(n); !isBound(n, got) {
				t.Errorf("Bound(%d): %d, which isn't what the chapter defines", n, got)
			}
		}
	}
}

// P9.1: every number of keys, held against the definition, in whole numbers alone.
func TestBoundOfEveryNumber(t *testing.T) {
	for n := range api.MaxPairs + 1 {
		if got := Bound(n); !isBound(n, got) {
			t.Fatalf("Bound(%d): %d, which isn't what the chapter defines", n, got)
		}
	}
}

// P9.1: each number that the bound can be above 17 begins where n + 1 to the power 6 reaches a power of two.
func TestBoundRisesWhereThePowerDoes(t *testing.T) {
	n := 0
	for k := 1; fixed+k <= most; k++ {
		reach := new(big.Int).Lsh(big.NewInt(1), uint(k))
		for new(big.Int).Exp(big.NewInt(int64(n)+1), big.NewInt(6), nil).Cmp(reach) < 0 {
			n++
		}
		if got := Bound(n); got < fixed+k {
			t.Errorf("Bound(%d): %d, below %d", n, got, fixed+k)
		}
		if got := Bound(n - 1); got >= fixed+k {
			t.Errorf("Bound(%d): %d, not below %d", n-1, got, fixed+k)
		}
	}
}

// P9.1: numbers are held within 0 and 2^20.
func TestBoundOfNumbersOutside(t *testing.T) {
	for _, n := range ends() {
		if got := Bound(n); n < 0 && got != fixed || n > 1<<20 && got != most {
			t.Errorf("Bound(%d): %d", n, got)
		}
	}
	for e := range 63 {
		for _, d := range []int{-2, -1, 0, 1, 2} {
			if n := 1<<e + d; n > 1<<20 && Bound(n) != most {
				t.Errorf("Bound(%d): %d, not %d", n, Bound(n), most)
			}
			if n := -1<<e + d; n < 0 && Bound(n) != fixed {
				t.Errorf("Bound(%d): %d, not %d", n, Bound(n), fixed)
			}
		}
	}
}

// P9.2: of every number and the next one, from below 0 to past 2^20.
func TestBoundNeverFalls(t *testing.T) {
	for n := -1000; n < api.MaxPairs+1000; n++ {
		if Bound(n) > Bound(n+1) {
			t.Fatalf("Bound(%d): %d, but Bound(%d): %d", n, Bound(n), n+1, Bound(n+1))
		}
	}
}

// P9.2: of numbers that lie far apart.
func TestBoundNeverFallsFarApart(t *testing.T) {
	l := ends()
	for i := range l {
		for j := range i {
			if Bound(l[j]) > Bound(l[i]) {
				t.Errorf("Bound(%d): %d, but Bound(%d): %d", l[j], Bound(l[j]), l[i], Bound(l[i]))
			}
		}
	}
	r := rand.New(rand.NewSource(92))
	for range 100000 {
		a, b := int(r.Uint64()), int(r.Uint64())>>r.Intn(64)
		if Bound(min(a, b)) > Bound(max(a, b)) {
			t.Fatalf("of %d and %d the greater number has the lesser bound", a, b)
		}
	}
}

// P9.1: a visit is a visit, and no compare.
func TestVisit(t *testing.T) {
	m := &Meter{}
	for i := range 5000 {
		counts(t, m, i, 0)
		m.Visit()
	}
	counts(t, m, 5000, 0)
	m = &Meter{Visits: -3, Compares: 8}
	for i := range 7 {
		m.Visit()
		counts(t, m, i-2, 8)
	}
}

// P9.1: a compare is a compare, and no visit, whatever it tells.
func TestCompareCounts(t *testing.T) {
	l := sampleKeys()
	m := &Meter{Visits: 4, Compares: -2}
	made := -2
	for _, a := range l {
		for _, b := range l {
			m.Compare(a, b)
			made++
			counts(t, m, 4, made)
		}
	}
}

// P9.1: what is told is layer 3's order, with a meter and without one.
func TestCompareTells(t *testing.T) {
	l := sampleKeys()
	var none *Meter
	for _, a := range l {
		for _, b := range l {
			want := order(a, b)
			if keys.Compare(a, b) != want {
				t.Fatalf("layer 3 tells %d, not %d", keys.Compare(a, b), want)
			}
			if got := (&Meter{}).Compare(a, b); got != want {
				t.Fatalf("Compare of %d and %d bytes: %d, not %d", len(a), len(b), got, want)
			}
			if got := none.Compare(a, b); got != want {
				t.Fatalf("a nil Meter's Compare of %d and %d bytes: %d, not %d", len(a), len(b), got, want)
			}
		}
	}
}

// P9.1: keys that are less, greater and alike; no bytes and nil; a key and its beginning.
func TestCompareTable(t *testing.T) {
	for _, c := range []struct {
		a, b []byte
		want int
	}{
		{nil, nil, 0},
		{nil, []byte{}, 0},
		{[]byte{}, nil, 0},
		{[]byte{}, []byte{}, 0},
		{nil, []byte{0}, -1},
		{[]byte{0}, nil, 1},
		{[]byte{}, []byte{0}, -1},
		{[]byte("a"), []byte("b"), -1},
		{[]byte("b"), []byte("a"), 1},
		{[]byte("ab"), []byte("ab"), 0},
		{[]byte("a"), []byte("a\x00"), -1},
		{[]byte("a\x00"), []byte("a"), 1},
		{[]byte("a\xff\xff"), []byte("b"), -1},
		{[]byte{0x7f}, []byte{0x80}, -1},
		{[]byte{0xff}, []byte{0}, 1},
	} {
		m := &Meter{}
		if got := m.Compare(c.a, c.b); got != c.want {
			t.Errorf("Compare(%q, %q): %d, not %d", c.a, c.b, got, c.want)
		}
		counts(t, m, 0, 1)
		var none *Meter
		if got := none.Compare(c.a, c.b); got != c.want {
			t.Errorf("a nil Meter's Compare(%q, %q): %d, not %d", c.a, c.b, got, c.want)
		}
	}
}

// P9.1: one without the other, and both by turns, in any order.
func TestVisitAndCompareByTurns(t *testing.T) {
	m := &Meter{}
	for i := range 1000 {
		m.Visit()
		counts(t, m, i+1, i)
		m.Compare([]byte("a"), []byte("b"))
		counts(t, m, i+1, i+1)
	}
	for start := range int64(50) {
		r := rand.New(rand.NewSource(start))
		m, want := &Meter{}, Meter{}
		for range 500 {
			if r.Intn(2) == 0 {
				m.Visit()
				want.Visits++
			} else {
				m.Compare(nil, []byte{1})
				want.Compares++
			}
			counts(t, m, want.Visits, want.Compares)
		}
	}
}

// Rule 3 of the document: nothing goes round: a count that can't be one more stays, and the other one counts on.
func TestCountsDontGoRound(t *testing.T) {
	m := &Meter{Visits: math.MaxInt - 2, Compares: math.MaxInt - 1}
	m.Visit()
	counts(t, m, math.MaxInt-1, math.MaxInt-1)
	m.Compare(nil, nil)
	counts(t, m, math.MaxInt-1, math.MaxInt)
	if got := m.Compare([]byte("a"), []byte("b")); got != -1 {
		t.Errorf("Compare of a meter that is at its end: %d", got)
	}
	counts(t, m, math.MaxInt-1, math.MaxInt)
	for range 3 {
		m.Visit()
		counts(t, m, math.MaxInt, math.MaxInt)
	}
	m = &Meter{Visits: math.MinInt, Compares: math.MinInt}
	m.Visit()
	m.Compare(nil, nil)
	counts(t, m, math.MinInt+1, math.MinInt+1)
}

// P9.1: a nil Meter counts nothing, and is within for every number.
func TestNilMeter(t *testing.T) {
	var m *Meter
	for range 300 {
		m.Visit()
		if m.Compare([]byte("a"), []byte("b")) != -1 || m.Compare([]byte("b"), []byte("a")) != 1 || m.Compare(nil, []byte{}) != 0 {
			t.Fatal("a nil Meter tells another order")
		}
	}
	if m != nil {
		t.Fatal("a nil Meter became one")
	}
	for _, n := range ends() {
		if !m.Within(n) {
			t.Errorf("a nil Meter isn't within %d keys", n)
		}
	}
}

// P9.1: a meter that has nothing is within for every number.
func TestWithinOfNothing(t *testing.T) {
	for _, n := range ends() {
		if !(&Meter{}).Within(n) {
			t.Errorf("a new meter isn't within %d keys", n)
		}
	}
}

// P9.1: Visits just the bound, one below it and one above it.
func TestWithinAboutTheBound(t *testing.T) {
	numbers := ends()
	for e := range 21 {
		numbers = append(numbers, 1<<e-2, 1<<e-1, 1<<e, 1<<e+1)
	}
	for _, n := range numbers {
		bound := fixed
		if n > 0 {
			bound = Bound(n)
		}
		for _, c := range []struct {
			visits int
			want   bool
		}{{bound - 1, true}, {bound, true}, {bound + 1, false}, {1, true}, {2 * bound, false}} {
			if got := (&Meter{Visits: c.visits}).Within(n); got != c.want {
				t.Errorf("%d visits, %d keys: %v", c.visits, n, got)
			}
			if got := (&Meter{Visits: c.visits, Compares: c.visits}).Within(n); got != c.want {
				t.Errorf("%d visits and compares, %d keys: %v", c.visits, n, got)
			}
		}
	}
}

// P9.1: the same with the numbers of the bound written out.
func TestWithinTable(t *testing.T) {
	for _, c := range []struct {
		visits, compares, n int
		want                bool
	}{
		{17, 17, 0, true},
		{18, 0, 0, false},
		{17, 17, -1, true},
		{18, 18, -1, false},
		{18, 18, math.MinInt, false},
		{23, 23, 1, true},
		{24, 0, 1, false},
		{26, 0, 2, true},
		{27, 0, 2, false},
		{29, 29, 3, true},
		{30, 30, 3, false},
		{77, 1, 1023, true},
		{78, 1, 1023, false},
		{137, 137, 1 << 20, true},
		{138, 137, 1 << 20, false},
		{137, 0, math.MaxInt, true},
		{138, 0, math.MaxInt, false},
		{17, 18, 0, false},
		{17, 18, 1 << 20, false},
		{0, 1, 1 << 20, false},
		{0, 0, 0, true},
		{1, 1, 0, true},
		{1, 2, 0, false},
	} {
		m := &Meter{Visits: c.visits, Compares: c.compares}
		if got := m.Within(c.n); got != c.want {
			t.Errorf("%d visits, %d compares, %d keys: %v", c.visits, c.compares, c.n, got)
		}
	}
}

// P9.1: Compares just the Visits, one below and one above them.
func TestWithinAboutTheVisits(t *testing.T) {
	for visits := -20; visits <= most; visits++ {
		for _, c := range []struct {
			compares int
			want     bool
		}{{visits - 1, true}, {visits, true}, {visits + 1, false}, {visits + 100, false}, {visits - 100, true}} {
			if got := (&Meter{Visits: visits, Compares: c.compares}).Within(1 << 20); got != c.want {
				t.Errorf("%d visits, %d compares: %v", visits, c.compares, got)
			}
		}
	}
}

// P9.1: numbers below 0, and as great or as small as an int can be.
func TestWithinOfAnyNumbers(t *testing.T) {
	for _, visits := range ends() {
		for _, compares := range ends() {
			for _, n := range ends() {
				bound := Bound(max(0, min(n, 1<<20)))
				want := true
				if visits > bound {
					want = false
				}
				if compares > visits {
					want = false
				}
				m := &Meter{Visits: visits, Compares: compares}
				if got := m.Within(n); got != want {
					t.Fatalf("%d visits, %d compares, %d keys: %v", visits, compares, n, got)
				}
			}
		}
	}
}

// P9.1: what is counted is what Within goes by.
func TestWithinOfWhatIsCounted(t *testing.T) {
	for _, n := range []int{0, 1, 2, 3, 100, 1 << 20} {
		m := &Meter{}
		for range Bound(n) {
			m.Visit()
			m.Compare([]byte("a"), []byte("b"))
			if !m.Within(n) {
				t.Fatalf("%d visits and as many compares aren't within %d keys", m.Visits, n)
			}
		}
		m.Compare(nil, nil)
		if m.Within(n) {
			t.Fatalf("a compare more than visits is within %d keys", n)
		}
		m.Visit()
		if m.Within(n) {
			t.Fatalf("a visit more than the bound is within %d keys", n)
		}
	}
}

// P9.1: Within and Bound change nothing, and tell the same each time.
func TestAskingChangesNothing(t *testing.T) {
	for _, visits := range ends() {
		m := &Meter{Visits: visits, Compares: 5}
		for _, n := range ends() {
			bound, within := Bound(n), m.Within(n)
			for range 3 {
				if Bound(n) != bound || m.Within(n) != within {
					t.Fatalf("asked again of %d keys, another answer", n)
				}
			}
			counts(t, m, visits, 5)
		}
	}
}

// Rules 2 and 7 of the document: no key is written into; what lies behind its length is neither read nor written.
func TestCompareLeavesItsKeys(t *testing.T) {
	one, two := []byte("abcabcxyz"), []byte("abcabdxya")
	wasOne, wasTwo := bytes.Clone(one), bytes.Clone(two)
	var none *Meter
	for i := range len(one) + 1 {
		for j := range len(two) + 1 {
			want := order(bytes.Clone(wasOne[:i]), bytes.Clone(wasTwo[:j]))
			for _, m := range []*Meter{{}, none} {
				if got := m.Compare(one[:i], two[:j]); got != want {
					t.Fatalf("Compare(%q, %q), with bytes behind: %d, not %d", one[:i], two[:j], got, want)
				}
			}
			if !bytes.Equal(one, wasOne) || !bytes.Equal(two, wasTwo) {
				t.Fatalf("Compare wrote into its keys: %q, %q", one, two)
			}
		}
	}
}

// Rule 2 of the document: one key as both arguments, or as the beginning of the other in one memory.
func TestCompareOfOneMemory(t *testing.T) {
	k := []byte("aaaa")
	m := &Meter{}
	if m.Compare(k, k) != 0 || m.Compare(k[:2], k) != -1 || m.Compare(k, k[1:]) != 1 || m.Compare(k[:3], k[1:]) != 0 {
		t.Error("keys of one memory are told another order of")
	}
	counts(t, m, 0, 4)
}

// Rule 2 of the document: no key is kept: what is told next goes by the bytes of that moment.
func TestCompareKeepsNoKeys(t *testing.T) {
	a, b := []byte("a"), []byte("b")
	m := &Meter{}
	if m.Compare(a, b) != -1 {
		t.Fatal("a isn't less than b")
	}
	a[0] = 'c'
	if m.Compare(a, b) != 1 {
		t.Fatal("a key that is other now is told of as it was")
	}
	counts(t, m, 0, 2)
}

// P9.1: two meters have nothing in common.
func TestTwoMeters(t *testing.T) {
	one, two := &Meter{}, &Meter{}
	var none *Meter
	for i := range 100 {
		one.Visit()
		none.Visit()
		counts(t, one, i+1, 2*i)
		counts(t, two, 0, i)
		two.Compare(nil, nil)
		none.Compare(nil, nil)
		counts(t, one, i+1, 2*i)
		counts(t, two, 0, i+1)
		one.Compare([]byte("a"), nil)
		one.Compare(nil, []byte("a"))
	}
	counts(t, &Meter{}, 0, 0)
}

// Rule 8 of the document: meters are compared by ==, and a copy is a meter of its own.
func TestMetersAreValues(t *testing.T) {
	m := Meter{}
	m.Visit()
	was := m
	if was != m || was != (Meter{Visits: 1}) {
		t.Fatalf("a copy is %v, not %v", was, m)
	}
	m.Compare(nil, nil)
	if was == m || was != (Meter{Visits: 1}) || m != (Meter{Visits: 1, Compares: 1}) {
		t.Fatalf("the copy turned with the meter: %v, %v", was, m)
	}
}
