package sip

import (
	"bytes"
	"encoding/binary"
	"math"
	mathbits "math/bits"
	"math/rand"
	"testing"

	"brushwood/api"
)

// greatest is the greatest number of 64 bits.
const greatest = uint64(math.MaxUint64)

// countedBytes is that many bytes, counted from 0 on and round.
func countedBytes(size int) []byte {
	b := make([]byte, size)
	for i := range b {
		b[i] = byte(i)
	}
	return b
}

// countedSeed is the seed of the bytes 0 to 15.
func countedSeed() api.Seed {
	return api.Seed(countedBytes(16))
}

// fullSeed is the seed of the byte 255 alone.
func fullSeed() api.Seed {
	return api.Seed(bytes.Repeat([]byte{255}, 16))
}

// sampleSeeds has the ends of a seed, the counted one, and some without a pattern.
func sampleSeeds() []api.Seed {
	l := []api.Seed{{}, fullSeed(), countedSeed()}
	r := rand.New(rand.NewSource(5))
	for range 5 {
		var seed api.Seed
		r.Read(seed[:])
		l = append(l, seed)
	}
	return l
}

// sampleNumbers has the ends of a number, each single bit, all but each bit, and some without a pattern.
func sampleNumbers() []uint64 {
	l := []uint64{0, greatest, 255, 0x0102030405060708}
	for i := range 64 {
		l = append(l, 1<<i, ^(uint64(1) << i))
	}
	r := rand.New(rand.NewSource(6))
	for range 20 {
		l = append(l, r.Uint64())
	}
	return l
}

// sampleStates has the ends of a state, each sample number at each place among noughts and among the greatest, and some without a pattern.
func sampleStates() []State {
	full := State{greatest, greatest, greatest, greatest}
	l := []State{{}, full}
	for _, m := range sampleNumbers() {
		for i := range 4 {
			low, high := State{}, full
			low[i], high[i] = m, m
			l = append(l, low, high)
		}
	}
	r := rand.New(rand.NewSource(7))
	for range 200 {
		l = append(l, State{r.Uint64(), r.Uint64(), r.Uint64(), r.Uint64()})
	}
	return l
}

// sampleKeys has keys of all short lengths, and of those about where the length counts anew, of several bytes each.
func sampleKeys() [][]byte {
	sizes := []int{127, 128, 129, 255, 256, 257, 263, 264, 511, 512, 513, 1000, api.MaxKey - 1, api.MaxKey, api.MaxKey + 1}
	for size := range 41 {
		sizes = append(sizes, size)
	}
	r := rand.New(rand.NewSource(8))
	l := [][]byte{nil}
	for _, size := range sizes {
		for _, c := range []byte{0, 1, 127, 128, 255} {
			l = append(l, bytes.Repeat([]byte{c}, size))
		}
		chance := make([]byte, size)
		r.Read(chance)
		l = append(l, countedBytes(size), chance)
	}
	return l
}

// model is a state as the chapter tells of it; what is done to it is written from its words, one by one.
type model struct{ p, q, r, s uint64 }

func modelOf(x State) model { return model{x[0], x[1], x[2], x[3]} }

func (m model) state() State { return State{m.p, m.q, m.r, m.s} }

func modelBegin(seed api.Seed) model {
	k := binary.LittleEndian.Uint64(seed[:8])
	l := binary.LittleEndian.Uint64(seed[8:])
	// The constants are a text of 32 letters, read from the front on, the highest byte first.
	const text = "somepseudorandomlygeneratedbytes"
	at := func(i int) uint64 { return binary.BigEndian.Uint64([]byte(text[8*i:])) }
	return model{k ^ at(0), l ^ at(1), k ^ at(2), l ^ at(3)}
}

func (m *model) round() {
	m.p = m.p + m.q
	m.q = mathbits.RotateLeft64(m.q, 13) ^ m.p
	m.p = mathbits.RotateLeft64(m.p, 32)
	m.r = m.r + m.s
	m.s = mathbits.RotateLeft64(m.s, 16) ^ m.r
	m.p = m.p + m.s
	m.s = mathbits.RotateLeft64(m.s, 21) ^ m.p
	m.r = m.r + m.q
	m.q = mathbits.RotateLeft64(m.q, 17) ^ m.r
	m.r = mathbits.RotateLeft64(m.r, 32)
}

func (m *model) take(n uint64) {
	m.s ^= n
	m.round()
	m.round()
	m.p ^= n
}

func (m *model) end() uint64 {
	m.r ^= 0xff
	m.round()
	m.round()
	m.round()
	m.round()
	return m.p ^ m.q ^ m.r ^ m.s
}

// modelHash lays noughts behind the key up to seven bytes past a whole number, then the length's lowest byte, and takes all of it.
func modelHash(seed api.Seed, key []byte) uint64 {
	laid := bytes.Clone(key)
	for len(laid)%8 != 7 {
		laid = append(laid, 0)
	}
	laid = append(laid, byte(len(key)))
	m := modelBegin(seed)
	for ; len(laid) > 0; laid = laid[8:] {
		m.take(binary.LittleEndian.Uint64(laid))
	}
	return m.end()
}

// P5.1
func TestBeginTable(t *testing.T) {
	for _, c := range []struct {
		seed api.Seed
		want State
	}{
		{api.Seed{}, State{0x736f6d6570736575, 0x646f72616e646f6d, 0x6c7967656e657261, 0x7465646279746573}},
		{fullSeed(), State{0x8c90929a8f8c9a8a, 0x9b908d9e919b9092, 0x9386989a919a8d9e, 0x8b9a9b9d868b9a8c}},
		{countedSeed(), State{0x7469686173716475, 0x6b617f6d656e6665, 0x6b7f62616d677361, 0x7b6b696e727e6c7b}},
		{api.Seed{1}, State{0x736f6d6570736574, 0x646f72616e646f6d, 0x6c7967656e657260, 0x7465646279746573}},
		{api.Seed{7: 1}, State{0x726f6d6570736575, 0x646f72616e646f6d, 0x6d7967656e657261, 0x7465646279746573}},
		{api.Seed{8: 1}, State{0x736f6d6570736575, 0x646f72616e646f6c, 0x6c7967656e657261, 0x7465646279746572}},
		{api.Seed{15: 1}, State{0x736f6d6570736575, 0x656f72616e646f6d, 0x6c7967656e657261, 0x7565646279746573}},
	} {
		if got := Begin(c.seed); got != c.want {
			t.Errorf("Begin(%v): %x, not %x", c.seed, got, c.want)
		}
	}
}

// P5.1: each bit of the first eight bytes turns a bit of p and of r alone, each of the last eight one of q and of s.
func TestBeginTakesEachBitOfTheSeed(t *testing.T) {
	for _, seed := range sampleSeeds() {
		if got, want := Begin(seed), modelBegin(seed).state(); got != want {
			t.Fatalf("Begin(%v): %x, not %x", seed, got, want)
		}
		for bit := range 128 {
			other := seed
			other[bit/8] ^= 1 << (bit % 8)
			want := Begin(seed)
			want[bit/64] ^= 1 << (bit % 64)
			want[bit/64+2] ^= 1 << (bit % 64)
			if got := Begin(other); got != want {
				t.Fatalf("Begin(%v): %x, not %x", other, got, want)
			}
		}
	}
}

// P5.1: worked out by hand.
func TestRoundTable(t *testing.T) {
	for _, c := range []struct{ x, want State }{
		{State{}, State{}},
		{State{1}, State{1 << 32, 1<<17 ^ 1, 1 << 32, 1 << 32}},
		{State{0, 1}, State{1 << 32, 1<<30 ^ 1<<17 ^ 1<<13 ^ 1, (1<<13 ^ 1) << 32, 1 << 32}},
		{State{0, 0, 1}, State{1, 1, 1 << 32, 1<<21 ^ 1}},
		{State{0, 0, 0, 1}, State{1<<16 + 1, 1, 1 << 32, 1<<37 ^ 1<<21 ^ 1<<16 ^ 1}},
		{State{greatest, greatest, greatest, greatest}, State{0xffffffff00000000, 0xfffffffffffdffff, greatest, 0xffffffff00200000}},
		{State{1 << 63, 1 << 63}, State{0, 1<<29 ^ 1<<12, 1 << 44, 0}},
	} {
		if got := c.x.Round(); got != c.want {
			t.Errorf("the round of %x: %x, not %x", c.x, got, c.want)
		}
	}
}

// P5.1
func TestRoundIsTheChapters(t *testing.T) {
	for _, x := range sampleStates() {
		m := modelOf(x)
		m.round()
		if got := x.Round(); got != m.state() {
			t.Fatalf("the round of %x: %x, not %x", x, got, m.state())
		}
	}
}

// P5.1
func TestTakeTable(t *testing.T) {
	for _, c := range []struct {
		x    State
		m    uint64
		want State
	}{
		{State{}, 0, State{}},
		{State{1}, 0, State{1}.Round().Round()},
		// The number that s is turns it to 0, and stands in p alone at the end.
		{State{0, 0, 0, greatest}, greatest, State{greatest}},
		{State{0, 0, 0, 7}, 7, State{7}},
	} {
		if got := c.x.Take(c.m); got != c.want {
			t.Errorf("%x takes %#x: %x, not %x", c.x, c.m, got, c.want)
		}
	}
}

// P5.1
func TestTakeIsTheChapters(t *testing.T) {
	numbers := sampleNumbers()
	for _, x := range sampleStates() {
		for _, n := range numbers {
			m := modelOf(x)
			m.take(n)
			if got := x.Take(n); got != m.state() {
				t.Fatalf("%x takes %#x: %x, not %x", x, n, got, m.state())
			}
		}
	}
}

// P5.1
func TestEndTable(t *testing.T) {
	for _, c := range []struct {
		x    State
		want uint64
	}{
		// r turns to 0 at once, and rounds leave noughts.
		{State{0, 0, 0xff}, 0},
		// What the first example has come to ahead of its end.
		{Begin(countedSeed()).Take(0x0706050403020100).Take(0x0f0e0d0c0b0a0908), 0xa129ca6149be45e5},
		{Begin(countedSeed()).Take(0), 0x726fdb47dd0e0e31},
	} {
		if got := c.x.End(); got != c.want {
			t.Errorf("the end of %x: %x, not %x", c.x, got, c.want)
		}
	}
}

// P5.1
func TestEndIsTheChapters(t *testing.T) {
	for _, x := range sampleStates() {
		m := modelOf(x)
		if got, want := x.End(), m.end(); got != want {
			t.Fatalf("the end of %x: %x, not %x", x, got, want)
		}
	}
}

// P5.1: the calls of a state leave it as it was.
func TestStatesStay(t *testing.T) {
	for _, before := range sampleStates() {
		x := before
		x.Round()
		x.Take(9)
		x.Take(greatest)
		x.End()
		if x != before {
			t.Fatalf("%x became %x", before, x)
		}
		if x.Round() != before.Round() || x.Take(9) != before.Take(9) || x.End() != before.End() {
			t.Fatalf("%x answers one thing, and then another", before)
		}
	}
}

// P5.1
func TestHashExamples(t *testing.T) {
	if got := Hash(countedSeed(), countedBytes(15)); got != 0xa129ca6149be45e5 {
		t.Errorf("the hash of the bytes 0 to 14: %x", got)
	}
	for _, none := range [][]byte{nil, {}, countedBytes(9)[9:]} {
		if got := Hash(countedSeed(), none); got != 0x726fdb47dd0e0e31 {
			t.Errorf("the hash of no bytes: %x", got)
		}
	}
}

// P5.1: under the seed of the bytes 0 to 15, the keys of so many bytes, counted from 0 on. (Told by another program for SipHash-2-4.)
func TestHashOfCountedKeys(t *testing.T) {
	for size, want := range []uint64{
		0x726fdb47dd0e0e31, 0x74f839c593dc67fd, 0x0d6c8009d9a94f5a, 0x85676696d7fb7e2d,
		0xcf2794e0277187b7, 0x18765564cd99a68d, 0xcbc9466e58fee3ce, 0xab0200f58b01d137,
		0x93f5f5799a932462, 0x9e0082df0ba9e4b0, 0x7a5dbbc594ddb9f3, 0xf4b32f46226bada7,
		0x751e8fbc860ee5fb, 0x14ea5627c0843d90, 0xf723ca908e7af2ee, 0xa129ca6149be45e5,
		0x3f2acc7f57c29bdb, 0x699ae9f52cbe4794, 0x4bc1b3f0968dd39c, 0xbb6dc91da77961bd,
		0xbed65cf21aa2ee98, 0xd0f2cbb02e3b67c7, 0x93536795e3a33e88, 0xa80c038ccd5ccec8,
		0xb8ad50c6f649af94, 0xbce192de8a85b8ea, 0x17d835b85bbb15f3, 0x2f2e6163076bcfad,
		0xde4daaaca71dc9a5, 0xa6a2506687956571, 0xad87a3535c49ef28, 0x32d892fad841c342,
		0x7127512f72f27cce, 0xa7f32346f95978e3, 0x12e0b01abb051238, 0x15e034d40fa197ae,
		0x314dffbe0815a3b4, 0x027990f029623981, 0xcadcd4e59ef40c4d, 0x9abfd8766a33735c,
		0x0e3ea96b5304a7d0, 0xad0c42d6fc585992, 0x187306c89bc215a9, 0xd4a60abcf3792b95,
		0xf935451de4f21df2, 0xa9538f0419755787, 0xdb9acddff56ca510, 0xd06c98cd5c0975eb,
		0xe612a3cb9ecba951, 0xc766e62cfcadaf96, 0xee64435a9752fe72, 0xa192d576b245165a,
		0x0a8787bf8ecb74b2, 0x81b3e73d20b49b6f, 0x7fa8220ba3b2ecea, 0x245731c13ca42499,
		0xb78dbfaf3a8d83bd, 0xea1ad565322a1a0b, 0x60e61c23a3795013, 0x6606d7e446282b93,
		0x6ca4ecb15c5f91e1, 0x9f626da15c9625f3, 0xe51b38608ef25f57, 0x958a324ceb064572,
		0xacd2c40b8502cad8,
	} {
		if got := Hash(countedSeed(), countedBytes(size)); got != want {
			t.Errorf("the hash of %d bytes: %016x, not %016x", size, got, want)
		}
	}
}

// P5.1: keys of one byte over and over, of lengths up to the greatest, under the ends of a seed. (Told by another program for SipHash-2-4.)
func TestHashOfLongKeys(t *testing.T) {
	zero, ones := api.Seed{}, fullSeed()
	for _, c := range []struct {
		seed api.Seed
		size int
		of   byte
		want uint64
	}{
		{zero, 0, 0, 0x1e924b9d737700d7},
		{zero, 0, 255, 0x1e924b9d737700d7},
		{zero, 1, 0, 0x8b5a0baa49fbc58d},
		{zero, 1, 255, 0x20dd4eb33d9590f2},
		{zero, 7, 0, 0x85f896b6040a13ec},
		{zero, 7, 255, 0x2e029c0a4c8f48e3},
		{zero, 8, 0, 0xe849e8bb6ffe2567},
		{zero, 8, 255, 0x8050c18b6ac9d15e},
		{zero, 9, 0, 0x2d508cd20c8f0cef},
		{zero, 9, 255, 0xbe29d70ddcf7e35d},
		{zero, 15, 0, 0x97f21481e1333322},
		{zero, 15, 255, 0xf3ba7836ceecdae2},
		{zero, 16, 0, 0x32caecc280172976},
		{zero, 16, 255, 0x76ce753d660f2d94},
		{zero, 255, 0, 0x8b21238d5527793f},
		{zero, 255, 255, 0xed6ad001220f838e},
		{zero, 256, 0, 0x80d978d6fa417c1e},
		{zero, 256, 255, 0x3d1256410bf214a1},
		{zero, 257, 0, 0x2d0244227390b43d},
		{zero, 257, 255, 0x638e4604e867face},
		{zero, 511, 0, 0x18c334e474be17eb},
		{zero, 511, 255, 0xe4ec18486eb7db2a},
		{zero, 512, 0, 0x8c1f7f6785370046},
		{zero, 512, 255, 0x294f1507212736ec},
		{zero, 513, 0, 0x0a3c26e8513d93ab},
		{zero, 513, 255, 0x27cb496f9ade355e},
		{zero, 65535, 0, 0x97ef4aebddc15dfd},
		{zero, 65535, 255, 0x6b1eb77e511f0431},
		{zero, 65536, 0, 0x21dff7a5de8619ae},
		{zero, 65536, 255, 0xe7ce25c1ecc1c0b0},
		{ones, 0, 0, 0x35dd279ee86ce565},
		{ones, 0, 255, 0x35dd279ee86ce565},
		{ones, 1, 0, 0x63e8f5ae8073d111},
		{ones, 1, 255, 0xeb45304aebf4e114},
		{ones, 7, 0, 0x3f5cf6f23fa6bfff},
		{ones, 7, 255, 0x7008818ecf918e11},
		{ones, 8, 0, 0x93e9a1f113e70a00},
		{ones, 8, 255, 0xf13e77491777f9d0},
		{ones, 9, 0, 0xc4d763fab367facd},
		{ones, 9, 255, 0x1b8d0792b6620321},
		{ones, 15, 0, 0x48222c854e5773c1},
		{ones, 15, 255, 0x5c8ba31dbb0d14c8},
		{ones, 16, 0, 0x35c8e6726a5f15cf},
		{ones, 16, 255, 0x1a27dd859ed29a2e},
		{ones, 255, 0, 0x6b30a7d3c1f5b672},
		{ones, 255, 255, 0xb6da527cf0f604e3},
		{ones, 256, 0, 0x90dad0fb812baea8},
		{ones, 256, 255, 0xc1774ddffc4ff77e},
		{ones, 257, 0, 0xc70fea7105b10b4f},
		{ones, 257, 255, 0xf4ba1291607478ee},
		{ones, 511, 0, 0x80fd2a3adf7ed686},
		{ones, 511, 255, 0x0dc8a2afb64c02dc},
		{ones, 512, 0, 0x952aa1723f12789e},
		{ones, 512, 255, 0x0a68ec116f24c349},
		{ones, 513, 0, 0x11ee9fc6d55b5c12},
		{ones, 513, 255, 0x5c17e5d557a99868},
		{ones, 65535, 0, 0xef60ae03971e00a4},
		{ones, 65535, 255, 0x36d2fbf8b46d1b0c},
		{ones, 65536, 0, 0x49633a0f438bb577},
		{ones, 65536, 255, 0x8adaa4fb94297e78},
	} {
		if got := Hash(c.seed, bytes.Repeat([]byte{c.of}, c.size)); got != c.want {
			t.Errorf("the hash under %v of %d bytes %d: %016x, not %016x", c.seed, c.size, c.of, got, c.want)
		}
	}
}

// P5.1: the hashes of the bytes of "key" under seeds of noughts, but for the byte 128 + i at the place i. (Told by another program for SipHash-2-4.)
func TestHashHangsOnEachByteOfTheSeed(t *testing.T) {
	seen := map[uint64]int{Hash(api.Seed{}, []byte("key")): -1}
	for i, want := range []uint64{
		0xb59376f47b292443, 0x88b619dab319e4ef, 0x3c37804cf6d38c2d, 0x56730440003ccd11,
		0xa72d5bdef5761a9f, 0x72d5d0783a8829a2, 0xdb25e73d7a0a25b5, 0x76eb0dd711e46e85,
		0x10e3a38feffba6c9, 0x97203e478c169beb, 0x5d18186d8332a733, 0xc824f1446a59aaa0,
		0xd8f5d07f69d40d54, 0x3476694b47c6ff6e, 0xdeddfeb6d9f23c97, 0x41171dca1be1cce4,
	} {
		var seed api.Seed
		seed[i] = byte(128 + i)
		got := Hash(seed, []byte("key"))
		if got != want {
			t.Errorf("the hash under the seed with a byte at %d: %016x, not %016x", i, got, want)
		}
		if j, twice := seen[got]; twice {
			t.Errorf("the seeds with a byte at %d and at %d have one hash", j, i)
		}
		seen[got] = i
	}
}

// P5.1
func TestHashIsTheChapters(t *testing.T) {
	for _, key := range sampleKeys() {
		for _, seed := range sampleSeeds() {
			if got, want := Hash(seed, key), modelHash(seed, key); got != want {
				t.Fatalf("the hash under %v of %d bytes: %016x, not %016x", seed, len(key), got, want)
			}
		}
	}
}

// P5.1: a hash is what the calls of a state make of the numbers that the chapter names.
func TestHashGoesByTheStates(t *testing.T) {
	seed := countedSeed()
	for _, c := range []struct {
		size    int
		numbers []uint64
	}{
		{0, []uint64{0}},
		{1, []uint64{0x01000000000000ff}},
		{7, []uint64{0x07ffffffffffffff}},
		{8, []uint64{greatest, 0x0800000000000000}},
		{9, []uint64{greatest, 0x09000000000000ff}},
		{16, []uint64{greatest, greatest, 0x1000000000000000}},
	} {
		x := Begin(seed)
		for _, m := range c.numbers {
			x = x.Take(m)
		}
		if got, want := Hash(seed, bytes.Repeat([]byte{255}, c.size)), x.End(); got != want {
			t.Errorf("the hash of %d bytes 255: %016x, not %016x", c.size, got, want)
		}
	}
}

// P5.1: keys that differ in noughts at their end alone have other hashes, as their lengths count.
func TestHashHangsOnTheLength(t *testing.T) {
	seen := map[uint64]int{}
	for size := range 600 {
		h := Hash(countedSeed(), make([]byte, size))
		if other, twice := seen[h]; twice {
			t.Errorf("%d and %d noughts have one hash", other, size)
		}
		seen[h] = size
	}
}

// Rules 2 and 7 of the document: no key is written into, and what lies behind its length is neither read nor written.
func TestHashStopsAtTheLength(t *testing.T) {
	for _, behind := range []byte{0, 1, 255} {
		for size := range 40 {
			room := append(countedBytes(size), bytes.Repeat([]byte{behind}, 20)...)
			before := bytes.Clone(room)
			got := Hash(countedSeed(), room[:size])
			if want := modelHash(countedSeed(), before[:size]); got != want {
				t.Errorf("the hash of %d bytes with bytes %d behind: %016x, not %016x", size, behind, got, want)
			}
			if !bytes.Equal(room, before) {
				t.Errorf("a key of %d bytes, or what lies behind it, was written into", size)
			}
		}
	}
}

// Rule 2 of the document: nothing is kept, so that a hash hangs on its seed and its key alone.
func TestHashKeepsNothing(t *testing.T) {
	seed, key := countedSeed(), countedBytes(20)
	first := Hash(seed, key)
	key[3], seed[3] = 99, 99
	Hash(seed, key)
	Hash(api.Seed{}, nil)
	key[3], seed[3] = 3, 3
	if got := Hash(seed, key); got != first {
		t.Errorf("the hash of one key is %016x, and then %016x", first, got)
	}
}
