package word

import (
	"bytes"
	"encoding/binary"
	"math"
	mathbits "math/bits"
	"math/rand"
	"testing"
)

// sampleWords has the edges of a word, each single bit, all up to each bit, and some words without a pattern.
func sampleWords() []uint64 {
	l := []uint64{0, 0x0102030405060708, 0x8090a0b0c0d0e0f0, 0xabc, 258, math.MaxUint64}
	for i := range 64 {
		l = append(l, 1<<i, 1<<i-1, ^(uint64(1) << i))
	}
	r := rand.New(rand.NewSource(1))
	for range 50 {
		l = append(l, r.Uint64())
	}
	return l
}

// sampleInts has every number near the bounds that the chapter names, and the ends of int.
func sampleInts() []int {
	l := []int{math.MinInt, math.MinInt + 1, -1 << 32, -1000, 1000, 1 << 32, 1<<32 + 5, math.MaxInt - 1, math.MaxInt}
	for i := -130; i <= 130; i++ {
		l = append(l, i)
	}
	return l
}

// nearer is n, or the bound that it is past.
func nearer(n, most int) int {
	switch {
	case n < 0:
		return 0
	case n > most:
		return most
	}
	return n
}

// P1.1
func TestPutTable(t *testing.T) {
	for _, c := range []struct {
		n     uint64
		width int
		want  []byte
	}{
		{258, 3, []byte{0, 1, 2}},
		{258, 2, []byte{1, 2}},
		{258, 1, []byte{2}},
		{258, 0, nil},
		{258, -1, nil},
		{258, math.MinInt, nil},
		{0, 4, []byte{0, 0, 0, 0}},
		{0x0102030405060708, 8, []byte{1, 2, 3, 4, 5, 6, 7, 8}},
		{0x0102030405060708, 7, []byte{2, 3, 4, 5, 6, 7, 8}},
		{0x0102030405060708, 9, []byte{1, 2, 3, 4, 5, 6, 7, 8}},
		{0x0102030405060708, math.MaxInt, []byte{1, 2, 3, 4, 5, 6, 7, 8}},
		{math.MaxUint64, 8, []byte{255, 255, 255, 255, 255, 255, 255, 255}},
	} {
		if got := Put(c.n, c.width); !bytes.Equal(got, c.want) {
			t.Errorf("Put(%#x, %d): %v, not %v", c.n, c.width, got, c.want)
		}
	}
}

// P1.1
func TestPutIsTheLowestBytes(t *testing.T) {
	for _, n := range sampleWords() {
		all := binary.BigEndian.AppendUint64(nil, n)
		for _, width := range sampleInts() {
			want := all[8-nearer(width, 8):]
			if got := Put(n, width); !bytes.Equal(got, want) {
				t.Fatalf("Put(%#x, %d): %v, not %v", n, width, got, want)
			}
		}
	}
}

// P1.1
func TestGetAndLowTable(t *testing.T) {
	for _, c := range []struct {
		b        []byte
		get, low uint64
	}{
		{nil, 0, 0},
		{[]byte{}, 0, 0},
		{[]byte{200}, 200, 200},
		{[]byte{1, 2}, 258, 513},
		{[]byte{0, 0, 7}, 7, 7 << 16},
		{[]byte{7, 0, 0}, 7 << 16, 7},
		{[]byte{1, 2, 3, 4, 5, 6, 7}, 0x01020304050607, 0x07060504030201},
		{[]byte{1, 2, 3, 4, 5, 6, 7, 8}, 0x0102030405060708, 0x0807060504030201},
		{[]byte{1, 2, 3, 4, 5, 6, 7, 8, 9}, 0x0102030405060708, 0x0807060504030201},
		{[]byte{0, 0, 0, 0, 0, 0, 0, 1, 9, 9, 9}, 1, 1 << 56},
		{bytes.Repeat([]byte{255}, 100), math.MaxUint64, math.MaxUint64},
	} {
		if got := Get(c.b); got != c.get {
			t.Errorf("Get(%v): %#x, not %#x", c.b, got, c.get)
		}
		if got := Low(c.b); got != c.low {
			t.Errorf("Low(%v): %#x, not %#x", c.b, got, c.low)
		}
	}
}

// P1.1
func TestGetAndLowOfAllLengths(t *testing.T) {
	r := rand.New(rand.NewSource(2))
	for size := range 20 {
		for range 20 {
			b := make([]byte, size)
			r.Read(b)
			front := b[:min(size, 8)]
			high, low := make([]byte, 8), make([]byte, 8)
			copy(high[8-len(front):], front)
			copy(low, front)
			if got, want := Get(b), binary.BigEndian.Uint64(high); got != want {
				t.Fatalf("Get(%v): %#x, not %#x", b, got, want)
			}
			if got, want := Low(b), binary.LittleEndian.Uint64(low); got != want {
				t.Fatalf("Low(%v): %#x, not %#x", b, got, want)
			}
		}
	}
}

// P1.1: what lies behind a list's length in its memory is not read.
func TestGetAndLowStopAtTheLength(t *testing.T) {
	room := []byte{1, 2, 3, 4, 5, 6, 7, 8}
	for size := range 8 {
		short := bytes.Clone(room[:size])
		if Get(room[:size]) != Get(short) || Low(room[:size]) != Low(short) {
			t.Errorf("bytes behind the length %d are read", size)
		}
	}
}

// P1.1
func TestTurnTable(t *testing.T) {
	for _, c := range []struct {
		x    uint64
		k    int
		want uint64
	}{
		{7, 0, 7},
		{1, 1, 2},
		{1, 63, 1 << 63},
		{1 << 63, 1, 1},
		{7, 64, 7},
		{1, 65, 2},
		{1, -1, 1 << 63},
		{2, -1, 1},
		{7, -64, 7},
		{1, -65, 1 << 63},
		{7, math.MinInt, 7},
		{7, math.MinInt + 1, 14},
		{2, math.MaxInt, 1},
		{0x0123456789abcdef, 4, 0x123456789abcdef0},
		{0x0123456789abcdef, 32, 0x89abcdef01234567},
	} {
		if got := Turn(c.x, c.k); got != c.want {
			t.Errorf("Turn(%#x, %d): %#x, not %#x", c.x, c.k, got, c.want)
		}
	}
}

// P1.1
func TestTurnMovesEachBit(t *testing.T) {
	for _, x := range sampleWords() {
		for _, k := range sampleInts() {
			if got, want := Turn(x, k), mathbits.RotateLeft64(x, k); got != want {
				t.Fatalf("Turn(%#x, %d): %#x, not %#x", x, k, got, want)
			}
			if Turn(Turn(x, k), -k) != x {
				t.Fatalf("Turn of %#x by %d isn't turned back", x, k)
			}
		}
	}
}

// P1.1
func TestCutTable(t *testing.T) {
	const all = uint64(math.MaxUint64)
	for _, c := range []struct {
		x           uint64
		from, width int
		want        uint64
	}{
		{0xabc, 4, 4, 0xb},
		{0xabc, 0, 4, 0xc},
		{0xabc, 8, 4, 0xa},
		{0xabc, 12, 4, 0},
		{all, 60, 5, 15},
		{all, 63, 1, 1},
		{all, 63, 64, 1},
		{all, 64, 5, 0},
		{all, 64, 64, 0},
		{all, 65, 5, 0},
		{all, math.MaxInt, math.MaxInt, 0},
		{all, 0, 64, all},
		{all, 0, 65, all},
		{all, 0, math.MaxInt, all},
		{all, 1, math.MaxInt, all >> 1},
		{all, 0, 63, all >> 1},
		{all, 5, 0, 0},
		{all, 5, -1, 0},
		{all, 5, math.MinInt, 0},
		{9, -3, 99, 9},
		{9, -3, 3, 1},
		{9, math.MinInt, 64, 9},
		{all, math.MinInt, math.MinInt, 0},
	} {
		if got := Cut(c.x, c.from, c.width); got != c.want {
			t.Errorf("Cut(%#x, %d, %d): %#x, not %#x", c.x, c.from, c.width, got, c.want)
		}
	}
}

// bitByBit is what Cut answers, laid one bit after the other.
func bitByBit(x uint64, from, width int) uint64 {
	var n uint64
	for i := range nearer(width, 64) {
		at := nearer(from, 64) + i
		if at < 64 && x&(1<<at) != 0 {
			n |= 1 << i
		}
	}
	return n
}

// P1.1
func TestCutTakesEachBit(t *testing.T) {
	for _, x := range []uint64{0x0123456789abcdef, 0xfedcba9876543210, math.MaxUint64, 1 << 63, 1} {
		for _, from := range sampleInts() {
			for _, width := range sampleInts() {
				if got, want := Cut(x, from, width), bitByBit(x, from, width); got != want {
					t.Fatalf("Cut(%#x, %d, %d): %#x, not %#x", x, from, width, got, want)
				}
			}
		}
	}
}

// P1.2
func TestGetOfPut(t *testing.T) {
	for _, n := range sampleWords() {
		if got := Get(Put(n, 8)); got != n {
			t.Fatalf("Get of Put(%#x, 8): %#x", n, got)
		}
		for _, width := range sampleInts() {
			if got, want := Get(Put(n, width)), bitByBit(n, 0, 8*nearer(width, 8)); got != want {
				t.Fatalf("Get of Put(%#x, %d): %#x, not %#x", n, width, got, want)
			}
		}
	}
}

// P1.2
func TestPutOfGet(t *testing.T) {
	r := rand.New(rand.NewSource(3))
	for size := range 20 {
		for range 20 {
			b := make([]byte, size)
			r.Read(b)
			if got, want := Put(Get(b), size), b[:min(size, 8)]; !bytes.Equal(got, want) {
				t.Fatalf("Put of Get(%v): %v", b, got)
			}
		}
	}
}

// Rule 2 of the document: no argument is written into, and answers are new memory.
func TestMemoryIsNotShared(t *testing.T) {
	b := []byte{1, 2, 3, 4, 5, 6, 7, 8, 9}
	before := bytes.Clone(b)
	Get(b)
	Low(b)
	if !bytes.Equal(b, before) {
		t.Error("an argument was written into")
	}
	first, second := Put(258, 3), Put(258, 3)
	first[0] = 99
	if second[0] != 0 || Put(258, 3)[0] != 0 {
		t.Error("two answers of Put share memory")
	}
}
