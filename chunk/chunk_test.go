package chunk

import (
	"math"
	"math/rand"
	"slices"
	"testing"

	"brushwood/api"
)

// ones is the hash of ones alone.
const ones = uint64(math.MaxUint64)

// sampleHashes has noughts, ones alone, each single bit, all but each bit, all up to each bit, and some without a pattern.
func sampleHashes() []uint64 {
	l := []uint64{0, ones, 0x3ff, 0xfedcba9876543210, 0x0123456789abcdef}
	for bit := range 64 {
		l = append(l, 1<<bit, ^(uint64(1) << bit), 1<<bit-1)
	}
	r := rand.New(rand.NewSource(9))
	for range 100 {
		l = append(l, r.Uint64())
	}
	return l
}

// wrongSizes has the lengths about 13, and some far from it.
func wrongSizes() []int {
	return []int{0, 1, 2, 11, 12, 14, 15, 25, 26, 64, 1000}
}

// noChunks has numbers that are no chunks at the level.
func noChunks(level int) []int {
	l := []int{math.MinInt, math.MinInt + 1, -1 << 32, -32, -31, -1, 32, 33, 63, 64, 1 << 32, 1<<32 + 1, math.MaxInt - 1, math.MaxInt}
	if level == 12 {
		for n := 16; n < 32; n++ {
			l = append(l, n)
		}
	}
	return l
}

// sizeAt is how many bits a chunk of the level has.
func sizeAt(level int) int {
	if level == 12 {
		return 4
	}
	return 5
}

// bitByBit is the chunk at a level from 0 to 12, laid one bit after the other.
func bitByBit(h uint64, level int) int {
	n, weight := 0, 1
	for i := range sizeAt(level) {
		if h&(1<<(5*level+i)) != 0 {
			n += weight
		}
		weight *= 2
	}
	return n
}

// wayBitByBit is the way that the chapter tells of, laid bit by bit.
func wayBitByBit(h uint64) []int {
	var l []int
	for level := range 13 {
		l = append(l, bitByBit(h, level))
	}
	return l
}

// hashByHand is the number whose digits, from the lowest on, are those of a way.
func hashByHand(way []int) uint64 {
	var h uint64
	for level := 12; level >= 0; level-- {
		h = h*32 + uint64(way[level])
	}
	return h
}

// commonByWays is at how many levels from 0 on the ways of two hashes are alike.
func commonByWays(a, b uint64) int {
	v, w := wayBitByBit(a), wayBitByBit(b)
	n := 0
	for n < 13 && v[n] == w[n] {
		n++
	}
	return n
}

// levelOf is the level at which a bit stands: 60 to 63 stand at the last one.
func levelOf(bit int) int {
	return bit / 5
}

// P6.1
func TestExamples(t *testing.T) {
	if got := At(0x3ff, 1); got != 31 {
		t.Errorf("At(0x3ff, 1): %d", got)
	}
	if got := Common(0, 32); got != 1 {
		t.Errorf("Common(0, 32): %d", got)
	}
}

// P6.1
func TestAtTable(t *testing.T) {
	for _, c := range []struct {
		h     uint64
		level int
		want  int
	}{
		{0x3ff, 0, 31},
		{0x3ff, 1, 31},
		{0x3ff, 2, 0},
		{32, 0, 0},
		{32, 1, 1},
		{0xfedcba9876543210, 0, 16},
		{0xfedcba9876543210, 5, 27},
		{0xfedcba9876543210, 11, 29},
		{0xfedcba9876543210, 12, 15},
		{1 << 59, 11, 16},
		{1 << 59, 12, 0},
		{1 << 60, 11, 0},
		{1 << 60, 12, 1},
		{1 << 63, 11, 0},
		{1 << 63, 12, 8},
		{ones, 11, 31},
		{ones, 12, 15},
	} {
		if got := At(c.h, c.level); got != c.want {
			t.Errorf("At(%#x, %d): %d, not %d", c.h, c.level, got, c.want)
		}
	}
}

// P6.1
func TestAtOfNoughtsAndOnes(t *testing.T) {
	for level := range 13 {
		if got := At(0, level); got != 0 {
			t.Errorf("At(0, %d): %d", level, got)
		}
		most := 31
		if level == 12 {
			most = 15
		}
		if got := At(ones, level); got != most {
			t.Errorf("At of ones alone, at %d: %d, not %d", level, got, most)
		}
	}
}

// P6.1: a bit stands at one level alone, there at its own place.
func TestAtOfEachSingleBit(t *testing.T) {
	for bit := range 64 {
		for level := range 13 {
			want := 0
			if level == levelOf(bit) {
				want = 1 << (bit - 5*level)
			}
			if got := At(1<<bit, level); got != want {
				t.Errorf("At of the bit %d, at %d: %d, not %d", bit, level, got, want)
			}
		}
	}
}

// P6.1
func TestAtTakesEachBit(t *testing.T) {
	for _, h := range sampleHashes() {
		for level := range 13 {
			if got, want := At(h, level), bitByBit(h, level); got != want {
				t.Fatalf("At(%#x, %d): %d, not %d", h, level, got, want)
			}
		}
	}
}

// P6.1: levels are held within 0 and 12, also those whose product with 5 goes round.
func TestAtHoldsTheLevel(t *testing.T) {
	// Five times these is 1 and 3, modulo 2^64.
	const roundToOne, roundToThree = -3689348814741910323, 7378697629483820647
	below := []int{-1, -2, -5, -12, -13, -64, -1 << 32, -1 << 62, roundToOne, math.MinInt / 5, math.MinInt/5 - 1, math.MinInt + 1, math.MinInt}
	above := []int{13, 14, 15, 26, 64, 99, 1 << 32, 1<<32 + 1, 1 << 62, roundToThree, math.MaxInt / 5, math.MaxInt/5 + 1, math.MaxInt - 1, math.MaxInt}
	for _, h := range sampleHashes() {
		for _, level := range below {
			if got, want := At(h, level), bitByBit(h, 0); got != want {
				t.Fatalf("At(%#x, %d): %d, not %d", h, level, got, want)
			}
		}
		for _, level := range above {
			if got, want := At(h, level), bitByBit(h, 12); got != want {
				t.Fatalf("At(%#x, %d): %d, not %d", h, level, got, want)
			}
		}
	}
}

// P6.1
func TestWayTable(t *testing.T) {
	for _, c := range []struct {
		h    uint64
		want []int
	}{
		{0, []int{0, 0, 0, 0, 0, 0, 0, 0, 0, 0, 0, 0, 0}},
		{ones, []int{31, 31, 31, 31, 31, 31, 31, 31, 31, 31, 31, 31, 15}},
		{1, []int{1, 0, 0, 0, 0, 0, 0, 0, 0, 0, 0, 0, 0}},
		{33, []int{1, 1, 0, 0, 0, 0, 0, 0, 0, 0, 0, 0, 0}},
		{1 << 63, []int{0, 0, 0, 0, 0, 0, 0, 0, 0, 0, 0, 0, 8}},
		{0x3ff, []int{31, 31, 0, 0, 0, 0, 0, 0, 0, 0, 0, 0, 0}},
		{0xfedcba9876543210, []int{16, 16, 12, 8, 5, 27, 1, 19, 26, 5, 23, 29, 15}},
	} {
		if got := Way(c.h); !slices.Equal(got, c.want) {
			t.Errorf("Way(%#x): %v, not %v", c.h, got, c.want)
		}
		if got, e := From(c.want); got != c.h || e != api.OK {
			t.Errorf("From(%v): %#x, %d, not %#x", c.want, got, e, c.h)
		}
	}
}

// P6.1
func TestWayIsAllChunks(t *testing.T) {
	for _, h := range sampleHashes() {
		got := Way(h)
		if want := wayBitByBit(h); !slices.Equal(got, want) {
			t.Fatalf("Way(%#x): %v, not %v", h, got, want)
		}
		for level, n := range got {
			if At(h, level) != n {
				t.Fatalf("At(%#x, %d) isn't what the way has there: %d", h, level, n)
			}
		}
	}
}

// P6.1
func TestFromWrongSizes(t *testing.T) {
	if h, e := From(nil); h != 0 || e != api.ErrArg {
		t.Errorf("From(nil): %#x, %d", h, e)
	}
	for _, size := range wrongSizes() {
		for _, n := range []int{0, 1, 15, 16, 31} {
			way := slices.Repeat([]int{n}, size)
			if h, e := From(way); h != 0 || e != api.ErrArg {
				t.Errorf("From of %d numbers %d: %#x, %d", size, n, h, e)
			}
		}
	}
}

// P6.1: the way's length is asked ahead of its numbers, wherever one stands that is no chunk.
func TestFromAsksTheSizeFirst(t *testing.T) {
	for _, size := range wrongSizes() {
		for at := range size {
			for _, n := range noChunks(min(at, 12)) {
				way := make([]int, size)
				way[at] = n
				if h, e := From(way); h != 0 || e != api.ErrArg {
					t.Fatalf("From of %d numbers, of which %d stands at %d: %#x, %d", size, n, at, h, e)
				}
			}
		}
	}
}

// P6.1: a number that is no chunk of its level is refused at each level, whatever stands at the others.
func TestFromWrongNumbers(t *testing.T) {
	for _, h := range []uint64{0, 1, ones, 0xfedcba9876543210} {
		for level := range 13 {
			for _, n := range noChunks(level) {
				way := wayBitByBit(h)
				way[level] = n
				if got, e := From(way); got != 0 || e != api.ErrForm {
					t.Errorf("From(%v): %#x, %d", way, got, e)
				}
			}
		}
	}
}

// P6.1: also where several are wrong, and so that they would make up for each other.
func TestFromSeveralWrongNumbers(t *testing.T) {
	for _, way := range [][]int{
		{32, -1, 0, 0, 0, 0, 0, 0, 0, 0, 0, 0, 0},
		{-32, 1, 0, 0, 0, 0, 0, 0, 0, 0, 0, 0, 0},
		{0, 0, 0, 0, 0, 0, 0, 0, 0, 0, 0, -1, 16},
		{0, 0, 0, 0, 0, 0, 0, 0, 0, 0, 0, 32, -1},
		slices.Repeat([]int{-1}, 13),
		slices.Repeat([]int{32}, 13),
		slices.Repeat([]int{31}, 13),
		slices.Repeat([]int{16}, 13),
		slices.Repeat([]int{math.MinInt}, 13),
		slices.Repeat([]int{math.MaxInt}, 13),
	} {
		if got, e := From(way); got != 0 || e != api.ErrForm {
			t.Errorf("From(%v): %#x, %d", way, got, e)
		}
	}
}

// P6.1: every chunk of every level is taken, among noughts and among the greatest chunks.
func TestFromTakesEachChunk(t *testing.T) {
	for _, h := range []uint64{0, ones} {
		for level := range 13 {
			for n := range 1 << sizeAt(level) {
				way := wayBitByBit(h)
				way[level] = n
				if got, e := From(way); got != hashByHand(way) || e != api.OK {
					t.Errorf("From(%v): %#x, %d, not %#x", way, got, e, hashByHand(way))
				}
			}
		}
	}
}

// P6.2: there and back.
func TestFromOfWay(t *testing.T) {
	for _, h := range sampleHashes() {
		if got, e := From(Way(h)); got != h || e != api.OK {
			t.Fatalf("From of Way(%#x): %#x, %d", h, got, e)
		}
	}
}

// P6.2: the other way round: what is a way is the way of one hash.
func TestWayOfFrom(t *testing.T) {
	r := rand.New(rand.NewSource(10))
	for range 500 {
		way := make([]int, 13)
		for level := range way {
			way[level] = r.Intn(1 << sizeAt(level))
		}
		h, e := From(way)
		if e != api.OK || h != hashByHand(way) {
			t.Fatalf("From(%v): %#x, %d, not %#x", way, h, e, hashByHand(way))
		}
		if got := Way(h); !slices.Equal(got, way) {
			t.Fatalf("Way of From(%v): %v", way, got)
		}
	}
}

// P6.2: no two hashes have one way; those that differ in one bit differ at its level alone.
func TestHashesAreKnownByTheirWays(t *testing.T) {
	seen := map[[13]int]uint64{}
	for _, h := range sampleHashes() {
		way := [13]int(Way(h))
		if other, twice := seen[way]; twice && other != h {
			t.Fatalf("%#x and %#x have one way: %v", other, h, way)
		}
		seen[way] = h
		for bit := range 64 {
			other := Way(h ^ 1<<bit)
			for level := range 13 {
				if (other[level] != way[level]) != (level == levelOf(bit)) {
					t.Fatalf("the ways of %#x without and with its bit %d turned, at %d: %d, %d", h, bit, level, way[level], other[level])
				}
			}
		}
	}
}

// P6.1
func TestCommonTable(t *testing.T) {
	for _, c := range []struct {
		a, b uint64
		want int
	}{
		{0, 0, 13},
		{ones, ones, 13},
		{0, ones, 0},
		{0, 1, 0},
		{0, 16, 0},
		{0, 31, 0},
		{0, 32, 1},
		{1, 33, 1},
		{0, 1 << 59, 11},
		{0, 1 << 60, 12},
		{0, 1 << 63, 12},
		{ones, ones >> 1, 12},
		{ones, ones >> 4, 12},
		{ones, ones >> 5, 11},
		{ones, ones - 1, 0},
		// They differ at one level, and are alike behind it.
		{0xfedcba9876543210, 0xfedcba9876543010, 1},
		{0xfedcba9876543210, 0xfedcba9876543610, 2},
		{0xfedcba9876543210, 0xfedcba9876542210, 2},
	} {
		if got := Common(c.a, c.b); got != c.want {
			t.Errorf("Common(%#x, %#x): %d, not %d", c.a, c.b, got, c.want)
		}
		if got := Common(c.b, c.a); got != c.want {
			t.Errorf("Common(%#x, %#x): %d, not %d", c.b, c.a, got, c.want)
		}
	}
}

// P6.1, P6.2: hashes are alike at all levels if they are the same, and else up to the level of the lowest bit that is other.
func TestCommonOfEachSingleBit(t *testing.T) {
	for _, h := range sampleHashes() {
		if got := Common(h, h); got != 13 {
			t.Fatalf("Common(%#x, %#x): %d", h, h, got)
		}
		for bit := range 64 {
			other := h ^ 1<<bit
			if got := Common(h, other); got != levelOf(bit) {
				t.Fatalf("Common(%#x, %#x): %d, not %d", h, other, got, levelOf(bit))
			}
			if got := Common(other, h); got != levelOf(bit) {
				t.Fatalf("Common(%#x, %#x): %d, not %d", other, h, got, levelOf(bit))
			}
		}
	}
}

// P6.1: what stands behind the first level at which they differ doesn't count, be it alike or not.
func TestCommonStopsWhereTheyDiffer(t *testing.T) {
	for _, h := range sampleHashes() {
		for level := range 13 {
			for n := 1; n < 1<<sizeAt(level); n++ {
				alikeBehind := h ^ uint64(n)<<(5*level)
				otherBehind := h ^ uint64(n)<<(5*level) ^ ones<<(5*level)<<sizeAt(level)
				for _, other := range []uint64{alikeBehind, otherBehind} {
					if Common(h, other) != level || Common(other, h) != level {
						t.Fatalf("Common(%#x, %#x): %d, and the other way round %d, not %d", h, other, Common(h, other), Common(other, h), level)
					}
				}
			}
		}
	}
}

// P6.1
func TestCommonGoesByTheWays(t *testing.T) {
	l := sampleHashes()
	for _, a := range l {
		for _, b := range l {
			if got, want := Common(a, b), commonByWays(a, b); got != want {
				t.Fatalf("Common(%#x, %#x): %d, not %d", a, b, got, want)
			}
		}
	}
}

// Rules 2 and 7 of the document: no way is written into, and what lies behind its length is neither read nor written.
func TestFromStopsAtTheLength(t *testing.T) {
	for _, behind := range []int{0, 1, 31, 32, -1, math.MinInt, math.MaxInt} {
		for size := range 20 {
			room := append(slices.Repeat([]int{9}, size), slices.Repeat([]int{behind}, 20)...)
			before := slices.Clone(room)
			wantHash, wantError := uint64(0), api.ErrArg
			if size == 13 {
				wantHash, wantError = hashByHand(before), api.OK
			}
			if h, e := From(room[:size]); h != wantHash || e != wantError {
				t.Errorf("From of %d numbers with %d behind: %#x, %d, not %#x, %d", size, behind, h, e, wantHash, wantError)
			}
			if !slices.Equal(room, before) {
				t.Errorf("a way of %d numbers, or what lies behind it, was written into", size)
			}
		}
	}
}

// Rule 2 of the document: a way that is refused isn't written into either.
func TestFromLeavesWrongWays(t *testing.T) {
	for level := range 13 {
		for _, n := range noChunks(level) {
			way := wayBitByBit(0xfedcba9876543210)
			way[level] = n
			before := slices.Clone(way)
			From(way)
			if !slices.Equal(way, before) {
				t.Fatalf("the way %v became %v", before, way)
			}
		}
	}
}

// Rule 2 of the document: two answers of Way share no memory, neither within their lengths nor behind them.
func TestWaysShareNoMemory(t *testing.T) {
	for _, h := range []uint64{0, ones, 0xfedcba9876543210} {
		first, second := Way(h), Way(h)
		whole := first[:cap(first)]
		for i := range whole {
			whole[i] = -7
		}
		if want := wayBitByBit(h); !slices.Equal(second, want) || !slices.Equal(Way(h), want) {
			t.Errorf("two ways of %#x share memory", h)
		}
	}
}

// Rule 2 of the document: nothing is kept of a way, so that it may be written into afterwards.
func TestFromKeepsNothing(t *testing.T) {
	way := wayBitByBit(0x3ff)
	h, _ := From(way)
	way[0] = 0
	if h != 0x3ff {
		t.Errorf("the hash became %#x", h)
	}
	if got, e := From(way); got != 0x3e0 || e != api.OK {
		t.Errorf("From(%v): %#x, %d", way, got, e)
	}
}
