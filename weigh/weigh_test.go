package weigh

import (
	"math"
	"math/big"
	"math/rand"
	"slices"
	"sort"
	"testing"

	"brushwood/api"
)

const (
	full = 1 << 20
	// top is the greatest height whose least size is at most 2^20.
	top = 45
	// leastOf64 is the least size of the height 64, worked out by the definition apart from this package.
	leastOf64 = 205773415
)

// even is the chapter's sentence on two sizes, which aren't held: the weight of neither is above three times that of the other.
func even(l, r int) bool {
	weightL, weightR := l+1, r+1
	if weightL > weightR+weightR+weightR {
		return false
	}
	if weightR > weightL+weightL+weightL {
		return false
	}
	return true
}

// asSize is what a size that is handed in counts as.
func asSize(n int) int {
	if n < 0 {
		return 0
	}
	if n > full {
		return full
	}
	return n
}

// firstEven finds the least size that is even with n by trying all from 0 on.
func firstEven(n int) int {
	m := 0
	for !even(m, n) {
		m++
	}
	return m
}

// firstEvenFast finds the same for a great n: of the sizes up to n, those that are even with it are the last ones.
func firstEvenFast(n int) int {
	return sort.Search(n, func(m int) bool { return even(m, n) })
}

// leastSizes is the definition of the least sizes, for the heights from 0 to 64.
func leastSizes() []int {
	l := []int{0}
	for len(l) <= 64 {
		s := l[len(l)-1]
		l = append(l, 1+s+firstEvenFast(s))
	}
	return l
}

// ends has the numbers at which a reckoning goes wrong first.
func ends() []int {
	return []int{
		math.MinInt, math.MinInt + 1, math.MinInt + 2, -1<<62 - 3, -1 << 40, -1 << 32, -1 << 31, -1<<20 - 1, -1 << 20, -65, -64, -4, -3, -2, -1,
		0, 1, 2, 3, 4, 5, 6, 7, 8, 9, 45, 46, 63, 64, 65, full/3 - 1, full / 3, full/3 + 1, 2 * full / 3, 2*full/3 + 1,
		full - 2, full - 1, full, full + 1, full + 2, 2 * full, 3*full + 2, 3*full + 3, 4 * full,
		1<<31 - 1, 1 << 31, 1 << 32, 1<<32 + 1, 1 << 40, math.MaxInt / 3, math.MaxInt/3 + 1, 1 << 62, math.MaxInt - 2, math.MaxInt - 1, math.MaxInt,
	}
}

// P10.1: the chapter's examples, and pairs of sizes worked out by hand, both ways round.
func TestEvenTable(t *testing.T) {
	for _, c := range []struct {
		l, r int
		want bool
	}{
		{0, 0, true},
		{1, 0, true},
		{2, 0, true}, // weights 3 and 1
		{3, 0, false},
		{4, 0, false},
		{4, 1, true},
		{5, 1, true}, // weights 6 and 2
		{6, 1, false},
		{7, 2, true},
		{8, 2, true}, // weights 9 and 3
		{9, 2, false},
		{100, 300, true},
		{100, 302, true}, // weights 101 and 303
		{100, 303, false},
		{full, 0, false},
		{full, 1, false},
		{full, 349524, false}, // weights 2^20 + 1 and 349525: three times that is 2^20 - 1
		{full, 349525, true},  // three times 349526 is 2^20 + 2
		{full - 1, 349524, false},
		{full - 1, 349525, true},
		{full - 2, 349524, true}, // weights 2^20 - 1 and 349525
		{full - 2, 349523, false},
		{full, full - 1, true},
		{full, full, true},
	} {
		if got := Even(c.l, c.r); got != c.want {
			t.Errorf("Even(%d, %d): %v", c.l, c.r, got)
		}
		if got := Even(c.r, c.l); got != c.want {
			t.Errorf("Even(%d, %d): %v", c.r, c.l, got)
		}
	}
}

// P10.1: a size is even with itself.
func TestEvenOfTheSame(t *testing.T) {
	for n := range full + 1 {
		if !Even(n, n) {
			t.Fatalf("%d isn't even with itself", n)
		}
	}
	for _, n := range ends() {
		if !Even(n, n) {
			t.Errorf("%d isn't even with itself", n)
		}
	}
}

// P10.1: the greater weight is just three times the lesser one, one more, and one less.
func TestEvenAboutThreeTimes(t *testing.T) {
	for lesser := 0; 3*(lesser+1) <= full; lesser++ {
		just := 3*(lesser+1) - 1
		for _, c := range []struct {
			greater int
			want    bool
		}{{just - 1, true}, {just, true}, {just + 1, false}} {
			if got := Even(lesser, c.greater); got != c.want {
				t.Fatalf("Even(%d, %d): %v", lesser, c.greater, got)
			}
			if got := Even(c.greater, lesser); got != c.want {
				t.Fatalf("Even(%d, %d): %v", c.greater, lesser, got)
			}
		}
	}
}

// P10.1: all pairs of small sizes, held against the definition.
func TestEvenOfSmallSizes(t *testing.T) {
	for l := range 700 {
		for r := range 700 {
			if got := Even(l, r); got != even(l, r) {
				t.Fatalf("Even(%d, %d): %v", l, r, got)
			}
		}
	}
}

// P10.1: sizes below 0 count as 0, those past 2^20 as 2^20, and nothing goes round.
func TestEvenOfSizesOutside(t *testing.T) {
	for _, l := range ends() {
		for _, r := range ends() {
			if got := Even(l, r); got != even(asSize(l), asSize(r)) {
				t.Errorf("Even(%d, %d): %v", l, r, got)
			}
		}
	}
	for _, c := range []struct {
		l, r int
		want bool
	}{
		{-1, 2, true},
		{-1, 3, false},
		{math.MinInt, 2, true},
		{math.MinInt, 3, false},
		{math.MinInt, -1, true},
		{math.MaxInt, math.MinInt, false},
		{math.MaxInt, full, true},
		{math.MaxInt, 349525, true},
		{math.MaxInt, 349524, false},
		{full + 1, 349525, true},
		{full + 2, 349525, true},
		{4 * full, full, true},
		{3*full + 3, full, true},
	} {
		if got, turned := Even(c.l, c.r), Even(c.r, c.l); got != c.want || turned != c.want {
			t.Errorf("Even(%d, %d): %v, and %v the other way round", c.l, c.r, got, turned)
		}
	}
	r := rand.New(rand.NewSource(101))
	for range 200000 {
		a, b := int(r.Uint64())>>r.Intn(64), int(r.Uint64())>>r.Intn(64)
		if got := Even(a, b); got != even(asSize(a), asSize(b)) {
			t.Fatalf("Even(%d, %d): %v", a, b, got)
		}
	}
}

// P10.1: the chapter's example, and sizes worked out by hand.
func TestBesideTable(t *testing.T) {
	for _, c := range []struct{ n, want int }{
		{0, 0}, {1, 0}, {2, 0}, {3, 1}, {4, 1}, {5, 1}, {6, 2}, {8, 2}, {9, 3}, {299, 99}, {300, 100},
		{full - 2, 349524}, {full - 1, 349525}, {full, 349525}, {full + 1, 349525}, {full + 2, 349525}, {2 * full, 349525},
		{-1, 0}, {-300, 0}, {math.MinInt, 0}, {math.MaxInt, 349525},
	} {
		if got := Beside(c.n); got != c.want {
			t.Errorf("Beside(%d): %d, not %d", c.n, got, c.want)
		}
	}
}

// P10.1: every size up to some thousands, by trying.
func TestBesideByTrying(t *testing.T) {
	for n := range 6000 {
		if got, want := Beside(n), firstEven(n); got != want {
			t.Fatalf("Beside(%d): %d, not %d", n, got, want)
		}
	}
	for _, n := range ends() {
		if got, want := Beside(n), firstEven(asSize(n)); got != want {
			t.Errorf("Beside(%d): %d, not %d", n, got, want)
		}
	}
}

// P10.1: what Beside tells is even with the size, and one less isn't, nor anything below that.
func TestBesideIsTheLeastEven(t *testing.T) {
	check := func(n int) {
		b := Beside(n)
		if b < 0 || b > full || !Even(b, n) || !even(b, asSize(n)) {
			t.Fatalf("Beside(%d): %d, which isn't even with it", n, b)
		}
		if b > 0 && (Even(b-1, n) || Even(b/2, n) || Even(0, n)) {
			t.Fatalf("Beside(%d): %d, but a lesser size is even with it", n, b)
		}
	}
	for n := range full + 1 {
		check(n)
	}
	for _, n := range ends() {
		check(n)
	}
}

// P10.1: the chapter's examples, and sizes worked out by hand.
func TestLeastTable(t *testing.T) {
	for h, want := range []int{0, 1, 2, 3, 5, 7, 10, 14, 19, 26, 35, 47, 63, 85} {
		if got := Least(h); got != want {
			t.Errorf("Least(%d): %d, not %d", h, got, want)
		}
	}
}

// P10.1: each height up to 64, held against the definition; what is reckoned is not cut at 2^20.
func TestLeastByDefinition(t *testing.T) {
	want := leastSizes()
	if want[64] != leastOf64 || want[top] > full || want[top+1] <= full {
		t.Fatalf("the definition gives %d for 64, %d for %d and %d for %d", want[64], want[top], top, want[top+1], top+1)
	}
	for h := range 65 {
		if got := Least(h); got != want[h] {
			t.Errorf("Least(%d): %d, not %d", h, got, want[h])
		}
	}
	for h := range top + 1 {
		if Least(h+1) != 1+Least(h)+Beside(Least(h)) {
			t.Errorf("Least(%d): %d, which isn't what Least and Beside of one less give", h+1, Least(h+1))
		}
	}
}

// P10.1: heights above 64 count as 64, those below 0 as 0.
func TestLeastOfHeightsOutside(t *testing.T) {
	if got := Least(63); got != 154330061 {
		t.Errorf("Least(63): %d", got)
	}
	for _, h := range append(ends(), 64, 65, 66, 100, 1000) {
		if got := Least(h); h <= 0 && got != 0 || h >= 64 && got != leastOf64 {
			t.Errorf("Least(%d): %d", h, got)
		}
	}
}

// tallest is the greatest height of an even tree of each size below n, by trying each root that has two even sides.
func tallest(n int) []int {
	heights := make([]int, n)
	for size := 1; size < n; size++ {
		for l := range size {
			if r := size - 1 - l; even(l, r) {
				heights[size] = max(heights[size], 1+heights[l], 1+heights[r])
			}
		}
	}
	return heights
}

// P10.1 and P10.2: the heights are those of the even trees there are, none of which is higher than the bound.
func TestHeightsOfAllEvenTrees(t *testing.T) {
	heights := tallest(3000)
	for n, want := range heights {
		if got := Height(n); got != want {
			t.Fatalf("Height(%d): %d, but the highest even tree has %d", n, got, want)
		}
		if !withinBound(want, n) {
			t.Fatalf("an even tree of %d pairs has the height %d", n, want)
		}
	}
	for h := range heights[len(heights)-1] + 1 {
		if got, want := Least(h), slices.Index(heights, h); got != want {
			t.Errorf("Least(%d): %d, but the least even tree has %d", h, got, want)
		}
	}
}

// P10.1: the chapter's example, and heights worked out by hand.
func TestHeightTable(t *testing.T) {
	for _, c := range []struct{ n, want int }{
		{0, 0}, {1, 1}, {2, 2}, {3, 3}, {4, 3}, {5, 4}, {6, 4}, {7, 5}, {9, 5}, {10, 6}, {13, 6}, {14, 7}, {18, 7}, {19, 8},
		{870065, 44}, {870066, top}, {full - 1, top}, {full, top}, {full + 1, top},
		{1160089, top}, {leastOf64, top}, {math.MaxInt, top}, // past 2^20: counts as 2^20
		{-1, 0}, {-full, 0}, {math.MinInt, 0},
	} {
		if got := Height(c.n); got != c.want {
			t.Errorf("Height(%d): %d, not %d", c.n, got, c.want)
		}
	}
}

// P10.1: each least size, one less and one more.
func TestHeightAboutLeastSizes(t *testing.T) {
	sizes := leastSizes()
	for h := range top + 1 {
		n := sizes[h]
		if got := Height(n); got != h {
			t.Errorf("Height(%d): %d, not %d", n, got, h)
		}
		if h > 0 && Height(n-1) != h-1 {
			t.Errorf("Height(%d): %d, not %d", n-1, Height(n-1), h-1)
		}
		want := h
		if sizes[h+1] == n+1 {
			want = h + 1
		}
		if got := Height(n + 1); got != want {
			t.Errorf("Height(%d): %d, not %d", n+1, got, want)
		}
	}
}

// P10.1: of every size: Least of its height isn't above it, Least of one more is; and the height never falls.
func TestHeightOfEverySize(t *testing.T) {
	sizes := leastSizes()
	check := func(n int) {
		h, size := Height(n), asSize(n)
		if h < 0 || h >= 64 || sizes[h] > size || sizes[h+1] <= size {
			t.Fatalf("Height(%d): %d", n, h)
		}
		if Least(h) > size || Least(h+1) <= size {
			t.Fatalf("Height(%d): %d, but Least is %d of it, %d of one more", n, h, Least(h), Least(h+1))
		}
	}
	before := 0
	for n := -1000; n <= full+1000; n++ {
		check(n)
		if h := Height(n); h < before {
			t.Fatalf("Height(%d): %d, but of one less %d", n, h, before)
		} else {
			before = h
		}
	}
	for _, n := range ends() {
		check(n)
	}
}

// P10.1: the height never falls, of sizes that lie far apart, either.
func TestHeightNeverFallsFarApart(t *testing.T) {
	r := rand.New(rand.NewSource(102))
	for range 100000 {
		a, b := int(r.Uint64())>>r.Intn(64), int(r.Uint64())>>r.Intn(64)
		if Height(min(a, b)) > Height(max(a, b)) {
			t.Fatalf("of %d and %d the greater size has the lesser height", a, b)
		}
	}
}

// withinBound tells whether h is at most 2 + 3 log2(n + 1): whether 2 to the power h - 2 is at most n + 1 to the power 3.
func withinBound(h, n int) bool {
	if h <= 2 {
		return true
	}
	weight := uint64(n) + 1
	return h-2 < 64 && uint64(1)<<(h-2) <= weight*weight*weight
}

// P10.2: every size from 0 to 2^20, and those that count as one of them.
func TestHeightIsWithinTheBound(t *testing.T) {
	for n := range full + 1 {
		if h := Height(n); h < 0 || !withinBound(h, n) {
			t.Fatalf("Height(%d): %d, which is above the bound", n, h)
		}
	}
	for _, n := range ends() {
		if h := Height(n); h < 0 || !withinBound(h, asSize(n)) {
			t.Errorf("Height(%d): %d, which is above the bound", n, h)
		}
	}
}

// P10.2: the least sizes are those where a height is nearest to the bound, also past 2^20.
func TestLeastSizesAreWithinTheBound(t *testing.T) {
	for h := 2; h <= 64; h++ {
		power := new(big.Int).Lsh(big.NewInt(1), uint(h-2))
		cube := new(big.Int).Exp(big.NewInt(int64(Least(h))+1), big.NewInt(3), nil)
		if power.Cmp(cube) > 0 {
			t.Errorf("the height %d has the size %d", h, Least(h))
		}
	}
}

// single is the chapter's sentence on a turn, of sizes that are held; the size of both and one is not.
func single(l, inner, outer int) bool {
	l, inner, outer = asSize(l), asSize(inner), asSize(outer)
	return even(l, inner) && even(l+inner+1, outer)
}

// P10.1: both pairs are even, just one of them, and neither.
func TestSingleTable(t *testing.T) {
	for _, c := range []struct {
		l, inner, outer int
		want            bool
	}{
		{0, 0, 0, true},
		{0, 1, 2, true},
		{0, 2, 3, true},
		{0, 0, 5, true}, // weights 1 and 1, 2 and 6
		{0, 0, 6, false},
		{0, 2, 11, true}, // weights 1 and 3, 4 and 12
		{0, 2, 12, false},
		{0, 3, 1, false}, // the first pair alone isn't even
		{3, 0, 1, false},
		{0, 3, 4, false},
		{5, 0, 1, false}, // neither is
		{0, 5, 0, false},
		{2, 2, 0, false}, // the second pair alone isn't: weights 6 and 1
		{2, 2, 1, true},
		{1, 1, 0, false},
		{1, 0, 0, true}, // weights 2 and 1, 3 and 1
		{2, 0, 0, false},
		{5, 1, 2, true},
		{5, 1, 1, false}, // weights 8 and 2
		{100, 302, 133, false},
		{100, 302, 134, true}, // weights 404 and 135
		{100, 302, 1211, true},
		{100, 302, 1212, false},
		{100, 303, 300, false},
		{302, 100, 300, true},
		{303, 100, 300, false},
		{full, full, full, true},
		{0, 0, full, false},
		{full, 0, 0, false},
		{0, full, full, false},
		{full, full, 0, false},
		{0, full, 0, false},
		{full, 0, full, false},
	} {
		if got := Single(c.l, c.inner, c.outer); got != c.want {
			t.Errorf("Single(%d, %d, %d): %v", c.l, c.inner, c.outer, got)
		}
	}
}

// P10.1: the size of both and one is not cut at 2^20.
func TestSingleOfGreatSums(t *testing.T) {
	for _, c := range []struct {
		l, inner, outer int
		want            bool
	}{
		{full, full, 349525, false}, // that would be enough beside 2^20
		{full, full, 699050, false}, // weights 2^21 + 2 and 699051: three times that is 2^21 + 1
		{full, full, 699051, true},
		{math.MaxInt, math.MaxInt, 699050, false},
		{math.MaxInt, full, 699051, true},
		{full + 1, full + 1, 699051, true},
		{full, 349525, full, true},
		{full, 349525, 466033, false}, // weights 2^20 + 349527 and 466034: three times that is one less
		{full, 349525, 466034, true},
		{349525, full, 466033, false},
		{349525, full, 466034, true},
		{349524, full, full, false},
		{full / 2, full / 2, 349524, false}, // weights 2^20 + 2 and 349525
		{full / 2, full / 2, 349525, true},
		{full/2 - 1, full / 2, 349524, false}, // just 2^20
		{full/2 - 1, full / 2, 349525, true},
	} {
		if got := Single(c.l, c.inner, c.outer); got != c.want {
			t.Errorf("Single(%d, %d, %d): %v", c.l, c.inner, c.outer, got)
		}
	}
}

// P10.1: all small sizes, held against the definition; each case of the two pairs is among them.
func TestSingleOfSmallSizes(t *testing.T) {
	seen := map[[2]bool]bool{}
	for l := range 70 {
		for inner := range 70 {
			for outer := range 200 {
				if got := Single(l, inner, outer); got != single(l, inner, outer) {
					t.Fatalf("Single(%d, %d, %d): %v", l, inner, outer, got)
				}
				seen[[2]bool{even(l, inner), even(l+inner+1, outer)}] = true
			}
		}
	}
	if len(seen) != 4 {
		t.Errorf("of the four cases only %d were tried", len(seen))
	}
}

// P10.1: each of the three at the ends, below 0, past 2^20, and anywhere between.
func TestSingleOfSizesOutside(t *testing.T) {
	for _, l := range ends() {
		for _, inner := range ends() {
			for _, outer := range ends() {
				if got := Single(l, inner, outer); got != single(l, inner, outer) {
					t.Fatalf("Single(%d, %d, %d): %v", l, inner, outer, got)
				}
			}
		}
	}
	r := rand.New(rand.NewSource(103))
	for range 300000 {
		l := int(r.Uint64()) >> r.Intn(64)
		inner, outer := asSize(l)+r.Intn(1<<r.Intn(22)), asSize(l)+r.Intn(1<<r.Intn(22))
		if got := Single(l, inner, outer); got != single(l, inner, outer) {
			t.Fatalf("Single(%d, %d, %d): %v", l, inner, outer, got)
		}
	}
}

// P10.1: Single's second pair about the two edges of being even, whatever the sum is.
func TestSingleAboutThreeTimes(t *testing.T) {
	r := rand.New(rand.NewSource(104))
	for range 100000 {
		l := r.Intn(full + 1)
		inner := min(Beside(l)+r.Intn(l+1), full)
		weight := l + inner + 2
		lowest, highest := (weight+2)/3-1, 3*weight-1
		if !Single(l, inner, lowest) || lowest > 0 && Single(l, inner, lowest-1) {
			t.Fatalf("Single(%d, %d, ..) doesn't begin at %d", l, inner, lowest)
		}
		if highest < full && (!Single(l, inner, highest) || Single(l, inner, highest+1)) {
			t.Fatalf("Single(%d, %d, ..) doesn't end at %d", l, inner, highest)
		}
	}
}

// Rule 5 of the document: asked again, in whatever order, each call tells the same.
func TestAskedAgain(t *testing.T) {
	type told struct {
		beside, least, height int
		even, single          bool
	}
	ask := func(n int) told {
		return told{Beside(n), Least(n), Height(n), Even(n, 7), Single(7, n, n)}
	}
	first := map[int]told{}
	for _, n := range ends() {
		first[n] = ask(n)
	}
	l := ends()
	slices.Reverse(l)
	for _, n := range l {
		if got := ask(n); got != first[n] {
			t.Errorf("asked of %d again: %v, not %v", n, got, first[n])
		}
	}
}

// P10.1: the bound of the sizes is the limit of a map's pairs.
func TestTheBoundOfSizes(t *testing.T) {
	if api.MaxPairs != full {
		t.Fatalf("a map may have %d pairs", api.MaxPairs)
	}
}
