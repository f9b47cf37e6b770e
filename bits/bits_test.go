package bits

import (
	"iter"
	"math"
	"math/rand"
	"slices"
	"testing"
)

// allOnes is the set of all 32 numbers.
const allOnes Map = 0xffffffff

// sampleSets has the empty set, the full one, each single number's, all but each number, all up to each, and some without a pattern.
func sampleSets() []Map {
	l := []Map{0, allOnes, 0x55555555, 0xaaaaaaaa, 0x80000001, 0x0000ffff, 0xffff0000}
	for i := range 32 {
		l = append(l, 1<<i, ^(Map(1) << i), 1<<i-1)
	}
	r := rand.New(rand.NewSource(11))
	for range 100 {
		l = append(l, Map(r.Uint32()), Map(r.Uint32()&r.Uint32()&r.Uint32()))
	}
	return l
}

// outside has numbers that are in no set; among them such as are numbers of sets once bits of them are lost.
func outside() []int {
	return []int{
		math.MinInt, math.MinInt + 1, math.MinInt + 5, math.MinInt + 31, math.MinInt32, -1 << 32, -1<<32 + 3, -256, -64, -33, -32, -31, -5, -2, -1,
		32, 33, 35, 63, 64, 65, 96, 255, 256, 257, 1 << 16, math.MaxInt32, 1 << 32, 1<<32 + 1, 1<<32 + 31, 1 << 40, math.MaxInt - 31, math.MaxInt - 1, math.MaxInt,
	}
}

// numbersOf is the numbers of a set, rising, found by halving it.
func numbersOf(m Map) []int {
	var l []int
	for i, rest := 0, uint32(m); rest > 0; i, rest = i+1, rest/2 {
		if rest%2 == 1 {
			l = append(l, i)
		}
	}
	return l
}

// setOf is the set of numbers, summed up: each counts once, and none that is in no set.
func setOf(l []int) Map {
	m, weight := Map(0), Map(1)
	for i := range 32 {
		if slices.Contains(l, i) {
			m += weight
		}
		weight *= 2
	}
	return m
}

// less is how many numbers of a list are less than i.
func less(l []int, i int) int {
	n := 0
	for _, x := range l {
		if x < i {
			n++
		}
	}
	return n
}

// everywhere has the numbers from 0 to 31, and such as are in no set.
func everywhere() []int {
	l := outside()
	for i := range 32 {
		l = append(l, i)
	}
	return l
}

// P7.1
func TestExamples(t *testing.T) {
	m := Of(3, 5, 40)
	if got := m.Count(); got != 2 {
		t.Errorf("Of(3, 5, 40).Count(): %d", got)
	}
	if got := m.Place(5); got != 1 {
		t.Errorf("Of(3, 5, 40).Place(5): %d", got)
	}
}

// P7.1: the lowest bit is that of 0.
func TestOfTable(t *testing.T) {
	for _, c := range []struct {
		l    []int
		want Map
	}{
		{nil, 0},
		{[]int{}, 0},
		{[]int{0}, 1},
		{[]int{1}, 2},
		{[]int{31}, 0x80000000},
		{[]int{0, 31}, 0x80000001},
		{[]int{3, 5, 40}, 0x28},
		{[]int{5, 3}, 0x28},
		{[]int{5, 5}, 0x20},
		{[]int{5, 3, 5, 3, 3}, 0x28},
		{[]int{-1}, 0},
		{[]int{32}, 0},
		{[]int{64}, 0},
		{[]int{math.MinInt}, 0},
		{[]int{math.MaxInt}, 0},
		{[]int{-1, 32, 64, math.MinInt, math.MaxInt}, 0},
		{[]int{-1, 7, 32, 64, 2, math.MinInt, math.MaxInt}, 0x84},
		{[]int{2, 1, 0, 3}, 15},
	} {
		if got := Of(c.l...); got != c.want {
			t.Errorf("Of(%v...): %#x, not %#x", c.l, got, c.want)
		}
	}
	if got := Of(); got != 0 {
		t.Errorf("Of(): %#x", got)
	}
}

// P7.1
func TestOfEachNumber(t *testing.T) {
	var l []int
	for i := range 32 {
		if got, want := Of(i), setOf([]int{i}); got != want {
			t.Errorf("Of(%d): %#x, not %#x", i, got, want)
		}
		l = append(l, i)
	}
	if got := Of(l...); got != allOnes {
		t.Errorf("Of all numbers: %#x", got)
	}
}

// P7.1: numbers in any order, some of them more than once, are those of the set.
func TestOfInAnyOrder(t *testing.T) {
	r := rand.New(rand.NewSource(12))
	for _, m := range sampleSets() {
		l := numbersOf(m)
		if got := Of(l...); got != m {
			t.Fatalf("Of(%v...): %#x, not %#x", l, got, m)
		}
		slices.Reverse(l)
		if got := Of(l...); got != m {
			t.Fatalf("Of(%v...): %#x, not %#x", l, got, m)
		}
		l = append(l, l...)
		r.Shuffle(len(l), func(i, j int) { l[i], l[j] = l[j], l[i] })
		if got := Of(l...); got != m {
			t.Fatalf("Of(%v...): %#x, not %#x", l, got, m)
		}
	}
}

// P7.1: such as are in no set don't count, wherever they stand.
func TestOfNumbersInNoSet(t *testing.T) {
	if got := Of(outside()...); got != 0 {
		t.Errorf("Of numbers that are in no set: %#x", got)
	}
	for _, x := range outside() {
		if got := Of(x); got != 0 {
			t.Errorf("Of(%d): %#x", x, got)
		}
		if got := Of(x, 4, 9); got != 0x210 {
			t.Errorf("Of(%d, 4, 9): %#x", x, got)
		}
		if got := Of(9, x, 4); got != 0x210 {
			t.Errorf("Of(9, %d, 4): %#x", x, got)
		}
		if got := Of(4, 9, x); got != 0x210 {
			t.Errorf("Of(4, 9, %d): %#x", x, got)
		}
	}
}

// Rules 2 and 7 of the document: no list is written into; what lies behind its length is neither read nor written.
func TestOfLeavesItsList(t *testing.T) {
	whole := []int{7, -1, 3, 32, 3, 11, 12, 13}
	before := slices.Clone(whole)
	for n := range whole {
		if got, want := Of(whole[:n]...), setOf(before[:n]); got != want {
			t.Errorf("Of(%v...), with numbers behind: %#x, not %#x", before[:n], got, want)
		}
		if !slices.Equal(whole, before) {
			t.Fatalf("Of of the first %d wrote into its list: %v", n, whole)
		}
	}
}

// P7.1: a set isn't other when the list that it came from is.
func TestOfKeepsNoList(t *testing.T) {
	l := []int{3, 5}
	m := Of(l...)
	l[0], l[1] = 8, 9
	if !m.Has(3) || !m.Has(5) || m.Has(8) || m != 0x28 {
		t.Errorf("the set turned with its list: %#x", m)
	}
}

// P7.1
func TestHas(t *testing.T) {
	for _, m := range sampleSets() {
		l := numbersOf(m)
		for _, i := range everywhere() {
			if got, want := m.Has(i), slices.Contains(l, i); got != want {
				t.Fatalf("%#x.Has(%d): %v", m, i, got)
			}
		}
	}
}

// P7.1
func TestWith(t *testing.T) {
	for _, m := range sampleSets() {
		l := numbersOf(m)
		for _, i := range everywhere() {
			got := m.With(i)
			if want := setOf(append(slices.Clone(l), i)); got != want {
				t.Fatalf("%#x.With(%d): %#x, not %#x", m, i, got, want)
			}
			if m.Has(i) && got != m {
				t.Fatalf("%#x.With(%d), which it has: %#x", m, i, got)
			}
		}
		for _, i := range outside() {
			if got := m.With(i); got != m {
				t.Fatalf("%#x.With(%d): %#x", m, i, got)
			}
		}
	}
}

// P7.1
func TestWithout(t *testing.T) {
	for _, m := range sampleSets() {
		for _, i := range everywhere() {
			got := m.Without(i)
			l := slices.DeleteFunc(numbersOf(m), func(x int) bool { return x == i })
			if want := setOf(l); got != want {
				t.Fatalf("%#x.Without(%d): %#x, not %#x", m, i, got, want)
			}
			if !m.Has(i) && got != m {
				t.Fatalf("%#x.Without(%d), which it hasn't: %#x", m, i, got)
			}
		}
		for _, i := range outside() {
			if got := m.Without(i); got != m {
				t.Fatalf("%#x.Without(%d): %#x", m, i, got)
			}
		}
	}
}

// P7.1: one number is turned, and no other.
func TestWithAndWithoutTurnOneNumber(t *testing.T) {
	for _, m := range sampleSets() {
		for i := range 32 {
			with, without := m.With(i), m.Without(i)
			for j := range 32 {
				if want := j == i || m.Has(j); with.Has(j) != want {
					t.Fatalf("%#x.With(%d) has %d: %v", m, i, j, !want)
				}
				if want := j != i && m.Has(j); without.Has(j) != want {
					t.Fatalf("%#x.Without(%d) has %d: %v", m, i, j, !want)
				}
			}
			if with.Without(i) != without || without.With(i) != with {
				t.Fatalf("%#x, turned there and back at %d: %#x, %#x", m, i, with.Without(i), without.With(i))
			}
		}
	}
}

// P7.1
func TestCount(t *testing.T) {
	for _, c := range []struct {
		m    Map
		want int
	}{{0, 0}, {1, 1}, {0x80000000, 1}, {0x28, 2}, {0x7fffffff, 31}, {allOnes, 32}} {
		if got := c.m.Count(); got != c.want {
			t.Errorf("%#x.Count(): %d, not %d", c.m, got, c.want)
		}
	}
	for _, m := range sampleSets() {
		if got, want := m.Count(), len(numbersOf(m)); got != want {
			t.Errorf("%#x.Count(): %d, not %d", m, got, want)
		}
	}
}

// P7.1
func TestPlaceTable(t *testing.T) {
	for _, c := range []struct {
		m       Map
		i, want int
	}{
		{0x28, 0, 0},
		{0x28, 2, 0},
		{0x28, 3, 0},
		{0x28, 4, 1},
		{0x28, 5, 1},
		{0x28, 6, 2},
		{0x28, 31, 2},
		{0x28, 32, 2},
		{0x80000001, 0, 0},
		{0x80000001, 1, 1},
		{0x80000001, 31, 1},
		{0x80000001, 32, 2},
		{0, 31, 0},
		{0, 32, 0},
		{allOnes, 31, 31},
		{allOnes, 32, 32},
		{allOnes, 33, 32},
		{allOnes, 64, 32},
		{allOnes, math.MaxInt, 32},
		{allOnes, 0, 0},
		{allOnes, -1, 0},
		{allOnes, math.MinInt, 0},
	} {
		if got := c.m.Place(c.i); got != c.want {
			t.Errorf("%#x.Place(%d): %d, not %d", c.m, c.i, got, c.want)
		}
	}
}

// P7.1: whether it has the number or not; below 0 none is less, from 32 on all are.
func TestPlace(t *testing.T) {
	for _, m := range sampleSets() {
		l := numbersOf(m)
		for _, i := range everywhere() {
			got := m.Place(i)
			if want := less(l, i); got != want {
				t.Fatalf("%#x.Place(%d): %d, not %d", m, i, got, want)
			}
			if i <= 0 && got != 0 || i > 31 && got != len(l) {
				t.Fatalf("%#x.Place(%d): %d", m, i, got)
			}
			if m.With(i).Place(i) != got || m.Without(i).Place(i) != got {
				t.Fatalf("%#x.Place(%d) hangs on whether it has that", m, i)
			}
		}
	}
}

// P7.1
func TestNth(t *testing.T) {
	for _, m := range sampleSets() {
		for k, want := range numbersOf(m) {
			if got, ok := m.Nth(k); got != want || !ok {
				t.Fatalf("%#x.Nth(%d): %d, %v, not %d", m, k, got, ok, want)
			}
		}
	}
}

// P7.1: 0 and false, where there is none.
func TestNthOfNoPlace(t *testing.T) {
	for _, m := range sampleSets() {
		n := len(numbersOf(m))
		none := append(outside(), n, n+1, n+31, n+32, n+1<<32, n-1<<32, math.MinInt+n, math.MaxInt-n)
		for _, k := range none {
			if got, ok := m.Nth(k); got != 0 || ok {
				t.Fatalf("%#x.Nth(%d): %d, %v", m, k, got, ok)
			}
		}
	}
	if got, ok := Map(0).Nth(0); got != 0 || ok {
		t.Errorf("the empty set's Nth(0): %d, %v", got, ok)
	}
	if got, ok := Of(0).Nth(0); got != 0 || !ok {
		t.Errorf("Of(0).Nth(0): %d, %v", got, ok)
	}
}

// P7.2
func TestPlaceOfNth(t *testing.T) {
	for _, m := range sampleSets() {
		for k := range m.Count() {
			i, ok := m.Nth(k)
			if !ok || !m.Has(i) || m.Place(i) != k {
				t.Fatalf("%#x.Nth(%d): %d, %v, whose place is %d", m, k, i, ok, m.Place(i))
			}
		}
	}
}

// P7.2
func TestNthOfPlace(t *testing.T) {
	for _, m := range sampleSets() {
		for i := range 32 {
			if !m.Has(i) {
				continue
			}
			if got, ok := m.Nth(m.Place(i)); got != i || !ok {
				t.Fatalf("%#x.Nth of Place(%d): %d, %v", m, i, got, ok)
			}
		}
	}
}

// P7.1
func TestAll(t *testing.T) {
	for range Map(0).All() {
		t.Fatal("the empty set tells a number")
	}
	if got := slices.Collect(allOnes.All()); len(got) != 32 || got[0] != 0 || got[31] != 31 {
		t.Errorf("the full set tells %v", got)
	}
	for _, m := range sampleSets() {
		if got, want := slices.Collect(m.All()), numbersOf(m); !slices.Equal(got, want) {
			t.Fatalf("%#x.All(): %v, not %v", m, got, want)
		}
	}
}

// tellTo is what is told of numbers if no more than n are asked for, and whether one was told after that.
func tellTo(numbers iter.Seq[int], n int) (told []int, more bool) {
	numbers(func(i int) bool {
		if len(told) >= n {
			more = true
			return false
		}
		told = append(told, i)
		return len(told) < n
	})
	return told, more
}

// P7.1: as far as is asked, and no further: behind the first, some, and the last number.
func TestAllBrokenOff(t *testing.T) {
	for _, m := range sampleSets() {
		l := numbersOf(m)
		for n := 1; n <= len(l); n++ {
			got, more := tellTo(m.All(), n)
			if more || !slices.Equal(got, l[:n]) {
				t.Fatalf("%#x.All(), broken off behind %d: %v, and more: %v", m, n, got, more)
			}
		}
		if got, more := tellTo(m.All(), len(l)+1); more || !slices.Equal(got, l) {
			t.Fatalf("%#x.All(), never broken off: %v, and more: %v", m, got, more)
		}
	}
}

// P7.1: if none is asked for, no number is told; the next going through begins at the first.
func TestAllBrokenOffBehindNone(t *testing.T) {
	for _, m := range sampleSets() {
		numbers := m.All()
		_, stop := iter.Pull(numbers)
		stop()
		asked := 0
		numbers(func(int) bool {
			asked++
			return false
		})
		if want := min(m.Count(), 1); asked != want {
			t.Fatalf("%#x.All() went on %d times after it was broken off at once", m, asked-want)
		}
		if got, want := slices.Collect(numbers), numbersOf(m); !slices.Equal(got, want) {
			t.Fatalf("%#x.All(), gone through anew: %v, not %v", m, got, want)
		}
	}
}

// P7.1: one All can be gone through again, in full or after it was broken off.
func TestAllTwiceOver(t *testing.T) {
	for _, m := range sampleSets() {
		numbers, want := m.All(), numbersOf(m)
		for range 2 {
			if got := slices.Collect(numbers); !slices.Equal(got, want) {
				t.Fatalf("%#x.All(), twice over: %v, not %v", m, got, want)
			}
		}
		for n := range want {
			tellTo(numbers, n+1)
			if got := slices.Collect(numbers); !slices.Equal(got, want) {
				t.Fatalf("%#x.All(), after it was broken off behind %d: %v, not %v", m, n+1, got, want)
			}
		}
	}
}

// P7.1: goings through, one within the other, don't disturb each other.
func TestAllTwoAtATime(t *testing.T) {
	for _, m := range sampleSets() {
		numbers, want := m.All(), numbersOf(m)
		var outer []int
		for i := range numbers {
			outer = append(outer, i)
			if inner := slices.Collect(numbers); !slices.Equal(inner, want) {
				t.Fatalf("%#x.All() within itself, at %d: %v, not %v", m, i, inner, want)
			}
		}
		if !slices.Equal(outer, want) {
			t.Fatalf("%#x.All() around itself: %v, not %v", m, outer, want)
		}
	}
}

// P7.1: turn by turn, one a number ahead of the other.
func TestAllTurnByTurn(t *testing.T) {
	for _, m := range sampleSets() {
		numbers, want := m.All(), numbersOf(m)
		ahead, stopAhead := iter.Pull(numbers)
		behind, stopBehind := iter.Pull(numbers)
		first, there := ahead()
		for k, i := range want {
			if !there || first != i {
				t.Fatalf("%#x.All(), ahead, at %d: %d, %v", m, k, first, there)
			}
			first, there = ahead()
			if got, ok := behind(); !ok || got != i {
				t.Fatalf("%#x.All(), behind, at %d: %d, %v", m, k, got, ok)
			}
		}
		if _, ok := behind(); ok || there {
			t.Fatalf("%#x.All() tells more than its numbers", m)
		}
		stopAhead()
		stopBehind()
	}
}

// P7.1: what All tells is the set that it was asked of, whatever is made of it in the meantime.
func TestAllTellsTheSetOfItsCall(t *testing.T) {
	m := Of(1, 4, 9)
	numbers := m.All()
	m = m.With(2).Without(9)
	if got := slices.Collect(numbers); !slices.Equal(got, []int{1, 4, 9}) {
		t.Errorf("All of an earlier set: %v", got)
	}
	var told []int
	for i := range m.All() {
		told = append(told, i)
		m = m.Without(4).With(20)
	}
	if !slices.Equal(told, []int{1, 2, 4}) {
		t.Errorf("All of a set that is turned on the way: %v", told)
	}
}

// P7.1: a set is the same behind every call, and every call's answer is.
func TestSetsStayAsTheyAre(t *testing.T) {
	for _, was := range sampleSets() {
		m := was
		for range 2 {
			for _, i := range everywhere() {
				has, with, without, place := was.Has(i), was.With(i), was.Without(i), was.Place(i)
				nth, there := was.Nth(i)
				if m.Has(i) != has || m.With(i) != with || m.Without(i) != without || m.Place(i) != place {
					t.Fatalf("%#x, asked again of %d, answers otherwise", was, i)
				}
				if again, ok := m.Nth(i); again != nth || ok != there {
					t.Fatalf("%#x.Nth(%d), asked again: %d, %v, not %d, %v", was, i, again, ok, nth, there)
				}
			}
			for range m.All() {
				m.Count()
			}
			if m != was {
				t.Fatalf("%#x became %#x", was, m)
			}
		}
	}
}

// Rule 8 of the document: sets are compared by ==: those with the same numbers are one, however they were made.
func TestSetsWithTheSameNumbersAreOne(t *testing.T) {
	if a, b := Of(1, 2, 3, 2), Of(3).With(1).With(40).With(2).Without(9); a != b {
		t.Errorf("two sets of 1, 2, 3: %#x, %#x", a, b)
	}
	for _, m := range sampleSets() {
		var made Map
		for i := range m.All() {
			made = made.With(i)
		}
		left := allOnes
		for i := range 32 {
			if !m.Has(i) {
				left = left.Without(i)
			}
		}
		if made != m || left != m {
			t.Fatalf("%#x, made number by number: %#x; left of the full set: %#x", m, made, left)
		}
	}
}
