package draws

import (
	"bytes"
	"math/rand"
	"slices"
	"testing"

	"brushwood/api"
)

// seedSize is how many bytes a seed has.
const seedSize = 16

// model is a source as the chapter tells of it: a list of bytes.
type model struct {
	left  []byte
	taken int
}

func newModel(b []byte) *model {
	return &model{left: bytes.Clone(b[:min(len(b), api.MaxText)])}
}

func (m *model) feed(b []byte) api.Errno {
	if len(m.left)+len(b) > api.MaxText {
		return api.ErrBig
	}
	m.left = slices.Concat(m.left, b)
	return api.OK
}

func (m *model) seed() (api.Seed, api.Errno) {
	if len(m.left) < seedSize {
		return api.Seed{}, api.ErrDry
	}
	seed := api.Seed(m.left[:seedSize])
	m.left = m.left[seedSize:]
	m.taken++
	return seed, api.OK
}

// patternless is n bytes without a pattern, the same for one start.
func patternless(start int64, n int) []byte {
	b := make([]byte, n)
	rand.New(rand.NewSource(start)).Read(b)
	return b
}

// counted is n bytes, of which each is other than the 250 ahead of it.
func counted(n int) []byte {
	b := make([]byte, n)
	for i := range b {
		b[i] = byte(i%251 + 1)
	}
	return b
}

// edges has the sizes about one seed and two, and some others.
func edges() []int {
	return []int{0, 1, 2, 15, 16, 17, 31, 32, 33, 47, 48, 49, 100, 255, 256, 257, 1000, 4096, 4097}
}

// standAt fails unless so many bytes are left, and so many seeds were taken.
func standAt(t *testing.T, s *Source, left, taken int) {
	t.Helper()
	if s.Left() != left || s.Taken() != taken {
		t.Fatalf("Left %d, Taken %d, not %d and %d", s.Left(), s.Taken(), left, taken)
	}
}

// feedIs fails unless a feed answers e.
func feedIs(t *testing.T, s *Source, b []byte, e api.Errno) {
	t.Helper()
	if got := s.Feed(b); got != e {
		t.Fatalf("Feed of %d bytes: %d, not %d", len(b), got, e)
	}
}

// seedIs fails unless the next seed is these 16 bytes, and counts.
func seedIs(t *testing.T, s *Source, want []byte) {
	t.Helper()
	left, taken := s.Left(), s.Taken()
	seed, e := s.Seed()
	if e != api.OK || !bytes.Equal(seed[:], want) {
		t.Fatalf("Seed: %x, %d, not %x", seed, e, want)
	}
	standAt(t, s, left-seedSize, taken+1)
}

// seedIsDry fails unless there is no seed, asked twice, and nothing is changed by it.
func seedIsDry(t *testing.T, s *Source) {
	t.Helper()
	left, taken := s.Left(), s.Taken()
	for range 2 {
		if seed, e := s.Seed(); e != api.ErrDry || seed != (api.Seed{}) {
			t.Fatalf("Seed of a source with %d bytes: %x, %d", left, seed, e)
		}
		standAt(t, s, left, taken)
	}
}

// restIs takes all that is left, to the last byte, and fails unless it is b.
func restIs(t *testing.T, s *Source, b []byte) {
	t.Helper()
	standAt(t, s, len(b), s.Taken())
	for len(b) >= seedSize {
		seedIs(t, s, b[:seedSize])
		b = b[seedSize:]
	}
	seedIsDry(t, s)
	if len(b) == 0 {
		return
	}
	// The bytes that make no seed are seen once others fill them up.
	fill := bytes.Repeat([]byte{0xee}, seedSize-len(b))
	feedIs(t, s, fill, api.OK)
	seedIs(t, s, slices.Concat(b, fill))
	seedIsDry(t, s)
}

// fullText has just as many bytes as may be left.
func fullText() []byte { return patternless(24, api.MaxText) }

// P8.1
func TestExample(t *testing.T) {
	b := counted(17)
	s := New(b)
	seedIs(t, s, b[:16])
	seedIsDry(t, s)
	standAt(t, s, 1, 1)
}

// P8.1
func TestNewWithoutBytes(t *testing.T) {
	for _, b := range [][]byte{nil, {}, counted(20)[:0]} {
		s := New(b)
		standAt(t, s, 0, 0)
		seedIsDry(t, s)
		feedIs(t, s, counted(16), api.OK)
		standAt(t, s, 16, 0)
		seedIs(t, s, counted(16))
		seedIsDry(t, s)
	}
}

// P8.1
func TestNew(t *testing.T) {
	for _, n := range edges() {
		b := counted(n)
		s := New(b)
		standAt(t, s, n, 0)
		for i := range n / seedSize {
			seedIs(t, s, b[i*seedSize:(i+1)*seedSize])
			standAt(t, s, n-(i+1)*seedSize, i+1)
		}
		standAt(t, s, n%seedSize, n/seedSize)
		seedIsDry(t, s)
		restIs(t, New(b), b)
	}
}

// P8.1: of all bytes noughts are like others: a seed of noughts is one that was taken.
func TestSeedOfNoughts(t *testing.T) {
	s := New(make([]byte, 33))
	seedIs(t, s, make([]byte, 16))
	seedIs(t, s, make([]byte, 16))
	seedIsDry(t, s)
	standAt(t, s, 1, 2)
}

// P8.1: just 2^24 bytes all count; of more the first 2^24 do.
func TestNewWithManyBytes(t *testing.T) {
	full := fullText()
	for _, more := range []int{0, 1, 15, 16, 17, 5000} {
		s := New(slices.Concat(full, bytes.Repeat([]byte{0x77}, more)))
		standAt(t, s, api.MaxText, 0)
		feedIs(t, s, []byte{1}, api.ErrBig)
		feedIs(t, s, nil, api.OK)
		for i := range api.MaxText / seedSize {
			if seed, e := s.Seed(); e != api.OK || seed != api.Seed(full[i*seedSize:(i+1)*seedSize]) {
				t.Fatalf("of %d bytes and %d more, seed %d: %x, %d", api.MaxText, more, i, seed, e)
			}
		}
		standAt(t, s, 0, api.MaxText/seedSize)
		seedIsDry(t, s)
	}
	s := New(slices.Concat(full, full, full[:7]))
	standAt(t, s, api.MaxText, 0)
	seedIs(t, s, full[:16])
}

// P8.1: one byte less than may be: all count, and one more can be fed.
func TestNewWithOneByteLessThanMayBe(t *testing.T) {
	full := fullText()
	s := New(full[:api.MaxText-1])
	standAt(t, s, api.MaxText-1, 0)
	feedIs(t, s, []byte{1, 2}, api.ErrBig)
	standAt(t, s, api.MaxText-1, 0)
	feedIs(t, s, []byte{full[api.MaxText-1]}, api.OK)
	standAt(t, s, api.MaxText, 0)
	feedIs(t, s, []byte{1}, api.ErrBig)
	for i := range api.MaxText / seedSize {
		if seed, e := s.Seed(); e != api.OK || seed != api.Seed(full[i*seedSize:(i+1)*seedSize]) {
			t.Fatalf("seed %d: %x, %d", i, seed, e)
		}
	}
	seedIsDry(t, s)
}

// P8.1: no bytes and nil are one: neither changes anything, wherever the source stands.
func TestFeedOfNoBytes(t *testing.T) {
	for _, n := range edges() {
		b := patternless(3, n)
		s := New(b)
		for _, none := range [][]byte{nil, {}, counted(9)[:0]} {
			feedIs(t, s, none, api.OK)
			standAt(t, s, n, 0)
		}
		if n >= seedSize {
			seedIs(t, s, b[:seedSize])
			b = b[seedSize:]
			feedIs(t, s, nil, api.OK)
			feedIs(t, s, []byte{}, api.OK)
		}
		restIs(t, s, b)
	}
}

// P8.1: on an empty source, on one that is dry with 1 to 15 bytes, and on one that isn't dry.
func TestFeedStandsBehind(t *testing.T) {
	for left := range 50 {
		for _, n := range edges() {
			b := patternless(int64(left), left+n)
			s := New(b[:left])
			feedIs(t, s, b[left:], api.OK)
			standAt(t, s, left+n, 0)
			restIs(t, s, b)
		}
	}
}

// P8.1: a source that became empty, or dry, by seeds is fed like any other.
func TestFeedBehindSeeds(t *testing.T) {
	for rest := range seedSize {
		for _, n := range edges() {
			b := patternless(int64(rest), 48+rest+n)
			s := New(b[:48+rest])
			for i := range 3 {
				seedIs(t, s, b[i*seedSize:(i+1)*seedSize])
			}
			seedIsDry(t, s)
			feedIs(t, s, b[48+rest:], api.OK)
			standAt(t, s, rest+n, 3)
			restIs(t, s, b[48:])
		}
	}
}

// P8.1: a Feed ends the dryness just when 16 bytes are left.
func TestFeedEndsDryness(t *testing.T) {
	for left := range seedSize {
		b := counted(seedSize)
		s := New(b[:left])
		seedIsDry(t, s)
		for i := left; i < seedSize; i++ {
			seedIsDry(t, s)
			feedIs(t, s, b[i:i+1], api.OK)
			standAt(t, s, i+1, 0)
		}
		seedIs(t, s, b)
		seedIsDry(t, s)
		standAt(t, s, 0, 1)
	}
}

// P8.1, P8.2: bytes one by one, with no seed between, and with each seed as soon as it is there.
func TestFeedByteByByte(t *testing.T) {
	b := patternless(5, 5003)
	s, eager := New(nil), New(nil)
	for i := range b {
		feedIs(t, s, b[i:i+1], api.OK)
		standAt(t, s, i+1, 0)
		feedIs(t, eager, b[i:i+1], api.OK)
		standAt(t, eager, i%seedSize+1, i/seedSize)
		if i%seedSize == seedSize-1 {
			seedIs(t, eager, b[i+1-seedSize:i+1])
		} else {
			seedIsDry(t, eager)
		}
	}
	restIs(t, s, b)
}

// P8.1: byte by byte up to all that may be left; this ends soon.
func TestFeedByteByByteTillFull(t *testing.T) {
	full := fullText()
	s := New(nil)
	for i := range full {
		if e := s.Feed(full[i : i+1]); e != api.OK {
			t.Fatalf("Feed of the byte %d: %d", i, e)
		}
	}
	standAt(t, s, api.MaxText, 0)
	feedIs(t, s, []byte{1}, api.ErrBig)
	for i := range api.MaxText / seedSize {
		if seed, e := s.Seed(); e != api.OK || seed != api.Seed(full[i*seedSize:(i+1)*seedSize]) {
			t.Fatalf("seed %d: %x, %d", i, seed, e)
		}
	}
	seedIsDry(t, s)
}

// P8.1: up to just 2^24 bytes is OK; past it is ErrBig, and nothing is changed.
func TestFeedPastTheLimit(t *testing.T) {
	full := fullText()
	for _, have := range []int{0, 1, 15, 16, 17, 1 << 23, api.MaxText - 1, api.MaxText} {
		s := New(full[:have])
		feedIs(t, s, make([]byte, api.MaxText-have+1), api.ErrBig)
		standAt(t, s, have, 0)
		feedIs(t, s, make([]byte, api.MaxText+1), api.ErrBig)
		feedIs(t, s, make([]byte, 2*api.MaxText), api.ErrBig)
		standAt(t, s, have, 0)
		feedIs(t, s, full[have:], api.OK)
		standAt(t, s, api.MaxText, 0)
		feedIs(t, s, []byte{1}, api.ErrBig)
		feedIs(t, s, make([]byte, 16), api.ErrBig)
		standAt(t, s, api.MaxText, 0)
		for i := range api.MaxText / seedSize {
			if seed, e := s.Seed(); e != api.OK || seed != api.Seed(full[i*seedSize:(i+1)*seedSize]) {
				t.Fatalf("begun with %d bytes, seed %d: %x, %d", have, i, seed, e)
			}
		}
		seedIsDry(t, s)
	}
}

// P8.1: more than 2^24 bytes at once never fit: unlike New, Feed takes none of them.
func TestFeedOfTooManyAtOnce(t *testing.T) {
	s := New(nil)
	for _, n := range []int{api.MaxText + 1, api.MaxText + 16, 2 * api.MaxText, 2*api.MaxText + 1} {
		feedIs(t, s, make([]byte, n), api.ErrBig)
		standAt(t, s, 0, 0)
		seedIsDry(t, s)
	}
	feedIs(t, s, counted(16), api.OK)
	seedIs(t, s, counted(16))
	feedIs(t, s, make([]byte, api.MaxText+1), api.ErrBig)
	standAt(t, s, 0, 1)
	feedIs(t, s, make([]byte, api.MaxText), api.OK)
	standAt(t, s, api.MaxText, 1)
}

// P8.1: on a full source no bytes are OK, and change nothing.
func TestFeedOfNoBytesOnAFullSource(t *testing.T) {
	full := fullText()
	s := New(full)
	feedIs(t, s, nil, api.OK)
	feedIs(t, s, []byte{}, api.OK)
	feedIs(t, s, full[:0], api.OK)
	standAt(t, s, api.MaxText, 0)
	seedIs(t, s, full[:16])
	standAt(t, s, api.MaxText-16, 1)
}

// P8.1: what counts is what is left, not what was fed: seeds that are taken make room, 16 bytes each.
func TestSeedsMakeRoom(t *testing.T) {
	full := fullText()
	s := New(full)
	feedIs(t, s, counted(33), api.ErrBig)
	seedIs(t, s, full[:16])
	feedIs(t, s, counted(17), api.ErrBig)
	feedIs(t, s, counted(33), api.ErrBig)
	standAt(t, s, api.MaxText-16, 1)
	seedIs(t, s, full[16:32])
	feedIs(t, s, counted(33), api.ErrBig)
	seedIs(t, s, full[32:48])
	feedIs(t, s, counted(33), api.OK)
	standAt(t, s, api.MaxText-15, 3)
	feedIs(t, s, counted(16), api.ErrBig)
	feedIs(t, s, patternless(1, 15), api.OK)
	standAt(t, s, api.MaxText, 3)
	feedIs(t, s, []byte{1}, api.ErrBig)
	restIsFrom(t, s, slices.Concat(full[48:], counted(33), patternless(1, 15)))
}

// restIsFrom is restIs, but quicker, for many bytes.
func restIsFrom(t *testing.T, s *Source, b []byte) {
	t.Helper()
	for ; len(b) >= 100; b = b[seedSize:] {
		if seed, e := s.Seed(); e != api.OK || seed != api.Seed(b[:seedSize]) {
			t.Fatalf("with %d bytes to come, Seed: %x, %d", len(b), seed, e)
		}
	}
	restIs(t, s, b)
}

// P8.1: in all many more bytes may be fed than may be left at once.
func TestFeedOfMoreInAllThanMayBeLeft(t *testing.T) {
	piece := patternless(8, 1<<20)
	s := New(nil)
	for round := range 40 {
		feedIs(t, s, piece, api.OK)
		for i := range len(piece) / seedSize {
			if seed, e := s.Seed(); e != api.OK || seed != api.Seed(piece[i*seedSize:(i+1)*seedSize]) {
				t.Fatalf("round %d, seed %d: %x, %d", round, i, seed, e)
			}
		}
		standAt(t, s, 0, (round+1)*len(piece)/seedSize)
	}
	seedIsDry(t, s)
}

// P8.1: a full source from which seeds are taken and to which as many bytes are fed stays quick, and in order.
func TestFullSourceOnAndOn(t *testing.T) {
	full := fullText()
	s := New(full)
	for i := range api.MaxText / seedSize {
		want := full[i*seedSize : (i+1)*seedSize]
		if seed, e := s.Seed(); e != api.OK || seed != api.Seed(want) {
			t.Fatalf("seed %d: %x, %d", i, seed, e)
		}
		again := [seedSize]byte{}
		copy(again[:], want)
		slices.Reverse(again[:])
		if e := s.Feed(again[:]); e != api.OK {
			t.Fatalf("Feed behind the seed %d: %d", i, e)
		}
	}
	standAt(t, s, api.MaxText, api.MaxText/seedSize)
	for i := range api.MaxText / seedSize {
		want := bytes.Clone(full[i*seedSize : (i+1)*seedSize])
		slices.Reverse(want)
		if seed, e := s.Seed(); e != api.OK || seed != api.Seed(want) {
			t.Fatalf("seed %d of the second round: %x, %d", i, seed, e)
		}
	}
	seedIsDry(t, s)
}

// P8.1: any calls, held against a list of bytes; Left and Taken behind each.
func TestAnyCalls(t *testing.T) {
	for start := range int64(200) {
		r := rand.New(rand.NewSource(start))
		first := patternless(start, r.Intn(70))
		s, m := New(first), newModel(first)
		for range 300 {
			if r.Intn(3) == 0 {
				b := patternless(r.Int63(), pieceSize(r))
				if got, want := s.Feed(b), m.feed(b); got != want {
					t.Fatalf("start %d: Feed of %d bytes: %d, not %d", start, len(b), got, want)
				}
			} else {
				got, e := s.Seed()
				want, f := m.seed()
				if got != want || e != f {
					t.Fatalf("start %d: Seed: %x, %d, not %x, %d", start, got, e, want, f)
				}
			}
			standAt(t, s, len(m.left), m.taken)
		}
		restIs(t, s, m.left)
	}
}

// pieceSize is mostly small, sometimes 0, and now and then some hundreds.
func pieceSize(r *rand.Rand) int {
	switch r.Intn(8) {
	case 0:
		return 0
	case 1:
		return r.Intn(600)
	default:
		return r.Intn(40)
	}
}

// P8.1: any calls about the limit, where some feeds are refused.
func TestAnyCallsAboutTheLimit(t *testing.T) {
	full := fullText()
	r := rand.New(rand.NewSource(31))
	s := New(full)
	left, refused := len(full), 0
	var fed []byte
	for range 3000 {
		if r.Intn(2) == 0 {
			b := patternless(r.Int63(), r.Intn(40))
			want := api.OK
			if left+len(b) > api.MaxText {
				want = api.ErrBig
				refused++
			} else {
				left += len(b)
				fed = append(fed, b...)
			}
			feedIs(t, s, b, want)
		} else {
			at := s.Taken() * seedSize
			seedIs(t, s, full[at:at+seedSize])
			left -= seedSize
		}
		standAt(t, s, left, s.Taken())
	}
	if refused == 0 || refused > 2000 {
		t.Fatalf("%d feeds were refused: this tells little", refused)
	}
	restIsFrom(t, s, slices.Concat(full[s.Taken()*seedSize:], fed))
}

// cutUp is b in pieces, of sizes that size tells.
func cutUp(b []byte, size func() int) [][]byte {
	var pieces [][]byte
	for len(b) > 0 {
		n := min(size(), len(b))
		pieces = append(pieces, b[:n])
		b = b[n:]
	}
	return pieces
}

// seedsOf is all seeds that can be taken.
func seedsOf(s *Source) []api.Seed {
	var l []api.Seed
	for {
		seed, e := s.Seed()
		if e != api.OK {
			return l
		}
		l = append(l, seed)
	}
}

// P8.2: in pieces of one size, with seeds behind.
func TestPiecesOfOneSize(t *testing.T) {
	b := patternless(12, 1003)
	want := seedsOf(New(b))
	if len(want) != 62 {
		t.Fatalf("%d seeds", len(want))
	}
	for size := 1; size <= len(b)+1; size++ {
		pieces := cutUp(b, func() int { return size })
		fed, begun := New(nil), New(pieces[0])
		for i, p := range pieces {
			feedIs(t, fed, p, api.OK)
			if i > 0 {
				feedIs(t, begun, p, api.OK)
			}
		}
		standAt(t, fed, len(b), 0)
		standAt(t, begun, len(b), 0)
		if !slices.Equal(seedsOf(fed), want) || !slices.Equal(seedsOf(begun), want) {
			t.Fatalf("in pieces of %d bytes there are other seeds", size)
		}
		standAt(t, fed, 11, 62)
		standAt(t, begun, 11, 62)
	}
}

// P8.2: each way to cut two seeds and some in three.
func TestThreePieces(t *testing.T) {
	b := patternless(13, 39)
	want := seedsOf(New(b))
	for i := range len(b) + 1 {
		for j := i; j <= len(b); j++ {
			s := New(b[:i])
			got := seedsOf(s)
			feedIs(t, s, b[i:j], api.OK)
			got = append(got, seedsOf(s)...)
			feedIs(t, s, b[j:], api.OK)
			got = append(got, seedsOf(s)...)
			if !slices.Equal(got, want) {
				t.Fatalf("cut at %d and %d: %x, not %x", i, j, got, want)
			}
			standAt(t, s, 7, 2)
		}
	}
}

// P8.2: in any pieces, some of them without a byte, with seeds between, some of them asked of a dry source, and behind.
func TestAnyPieces(t *testing.T) {
	for start := range int64(200) {
		r := rand.New(rand.NewSource(start))
		b := patternless(1000+start, r.Intn(3000))
		want := seedsOf(New(b))
		s := New(nil)
		var got []api.Seed
		for _, p := range cutUp(b, func() int { return pieceSize(r) }) {
			feedIs(t, s, p, api.OK)
			for range r.Intn(5) {
				if seed, e := s.Seed(); e == api.OK {
					got = append(got, seed)
				}
			}
		}
		got = append(got, seedsOf(s)...)
		if !slices.Equal(got, want) {
			t.Fatalf("start %d: other seeds in pieces: %x, not %x", start, got, want)
		}
		standAt(t, s, len(b)%seedSize, len(b)/seedSize)
	}
}

// P8.2: a feed that is refused is as if it had not been.
func TestRefusedFeedsBetween(t *testing.T) {
	b := patternless(14, 500)
	big := bytes.Repeat([]byte{0x99}, api.MaxText+1)
	want := seedsOf(New(b))
	s := New(nil)
	var got []api.Seed
	for _, p := range cutUp(b, func() int { return 23 }) {
		feedIs(t, s, big, api.ErrBig)
		feedIs(t, s, p, api.OK)
		feedIs(t, s, big[:api.MaxText-s.Left()+1], api.ErrBig)
		got = append(got, seedsOf(s)...)
	}
	if !slices.Equal(got, want) {
		t.Fatalf("with refused feeds between: %x, not %x", got, want)
	}
}

// Rule 2 of the document: what was handed in isn't kept.
func TestChangedArgumentsChangeNoSeed(t *testing.T) {
	for _, n := range edges() {
		b := patternless(15, n)
		was := bytes.Clone(b)
		s := New(b)
		spoil(b)
		again := bytes.Clone(was)
		feedIs(t, s, again, api.OK)
		spoil(again)
		feedIs(t, s, was, api.OK)
		restIs(t, s, slices.Concat(was, was, was))
		fed := New(nil)
		late := bytes.Clone(was)
		feedIs(t, fed, late, api.OK)
		spoil(late)
		restIs(t, fed, was)
	}
}

// spoil makes each byte another one.
func spoil(b []byte) {
	for i := range b {
		b[i] ^= 0xff
	}
}

// Rule 2 of the document: a list of which only the first bytes count isn't kept either.
func TestChangedArgumentOfTooManyBytes(t *testing.T) {
	full := fullText()
	b := slices.Concat(full, counted(9))
	s := New(b)
	spoil(b)
	restIsFrom(t, s, full)
}

// Rule 2 of the document: one list fed again and again, with other bytes each time.
func TestOneListOverAndOver(t *testing.T) {
	var want []byte
	s, list := New(nil), make([]byte, 7)
	for i := range 100 {
		copy(list, patternless(int64(i), 7))
		want = append(want, list...)
		feedIs(t, s, list, api.OK)
	}
	restIs(t, s, want)
}

// Rule 2 of the document: a seed that was told is the asker's: to change it changes nothing.
func TestChangedSeedChangesNothing(t *testing.T) {
	b := patternless(16, 100)
	s := New(b)
	first, e := s.Seed()
	if e != api.OK {
		t.Fatal(e)
	}
	kept := first
	spoil(first[:])
	standAt(t, s, 84, 1)
	second, e := s.Seed()
	if e != api.OK || !bytes.Equal(second[:], b[16:32]) {
		t.Fatalf("the next seed: %x, %d", second, e)
	}
	spoil(second[:])
	feedIs(t, s, counted(40), api.OK)
	restIs(t, s, slices.Concat(b[32:], counted(40)))
	if !bytes.Equal(kept[:], b[:16]) {
		t.Fatalf("a seed that was told became %x", kept)
	}
}

// Rule 2 of the document: a list made of a seed that was told, fed in and then changed.
func TestSeedFedBack(t *testing.T) {
	b := patternless(17, 48)
	s := New(b)
	seed, e := s.Seed()
	if e != api.OK {
		t.Fatal(e)
	}
	feedIs(t, s, seed[:], api.OK)
	spoil(seed[:])
	restIs(t, s, slices.Concat(b[16:], b[:16]))
}

// Rules 2 and 7 of the document: no list is written into; what lies behind its length is neither read nor written.
func TestListsStayAsTheyAre(t *testing.T) {
	for _, n := range edges() {
		whole := patternless(18, n+300)
		before := bytes.Clone(whole)
		s := New(whole[:n])
		standAt(t, s, n, 0)
		feedIs(t, s, counted(50), api.OK)
		feedIs(t, s, whole[:n], api.OK)
		feedIs(t, s, counted(60), api.OK)
		seedIs(t, s, slices.Concat(before[:n], counted(50))[:16])
		feedIs(t, s, whole[n:n+10], api.OK)
		feedIs(t, s, counted(70), api.OK)
		if !bytes.Equal(whole, before) {
			t.Fatalf("a list of %d bytes, or what lies behind it, was written into", n)
		}
		all := slices.Concat(before[:n], counted(50), before[:n], counted(60), before[n:n+10], counted(70))
		restIs(t, s, all[16:])
		if !bytes.Equal(whole, before) {
			t.Fatalf("a list of %d bytes, or what lies behind it, was written into by seeds", n)
		}
	}
}

// Rules 2 and 7 of the document: so it is where the list is too long for New, and where Feed refuses it.
func TestLongListsStayAsTheyAre(t *testing.T) {
	whole := patternless(19, api.MaxText+500)
	before := bytes.Clone(whole)
	s := New(whole[:api.MaxText+100])
	seedIs(t, s, before[:16])
	feedIs(t, s, counted(17), api.ErrBig)
	feedIs(t, s, counted(16), api.OK)
	feedIs(t, s, whole[:100], api.ErrBig)
	feedIs(t, New(nil), whole[:api.MaxText+100], api.ErrBig)
	feedIs(t, New(nil), whole[:api.MaxText], api.OK)
	if !bytes.Equal(whole, before) {
		t.Fatal("a long list was written into")
	}
	restIsFrom(t, s, slices.Concat(before[16:api.MaxText], counted(16)))
}

// Rule 7 of the document: room behind a list's length counts for nothing: neither for New nor for the limit of Feed.
func TestRoomBehindAListDoesNotCount(t *testing.T) {
	roomy := make([]byte, api.MaxText+100)
	copy(roomy, counted(20))
	s := New(roomy[:20])
	standAt(t, s, 20, 0)
	feedIs(t, s, roomy[:20], api.OK)
	standAt(t, s, 40, 0)
	restIs(t, s, slices.Concat(counted(20), counted(20)))
}

// Rule 2 of the document: two sources have nothing in common, even of one list and fed by turns.
func TestTwoSources(t *testing.T) {
	list := make([]byte, 33, 400)
	copy(list, patternless(20, 33))
	one, two := New(list), New(list)
	wantOne, wantTwo := bytes.Clone(list), bytes.Clone(list)
	takenOne := 0
	for i := range 60 {
		a, b := patternless(int64(i), 5), patternless(int64(-1-i), 9)
		feedIs(t, one, a, api.OK)
		feedIs(t, two, b, api.OK)
		wantOne, wantTwo = append(wantOne, a...), append(wantTwo, b...)
		if i%5 == 4 {
			seedIs(t, one, wantOne[:16])
			wantOne = wantOne[16:]
			takenOne++
		}
		standAt(t, one, len(wantOne), takenOne)
		standAt(t, two, len(wantTwo), 0)
	}
	restIs(t, one, wantOne)
	standAt(t, two, len(wantTwo), 0)
	restIs(t, two, wantTwo)
	standAt(t, New(nil), 0, 0)
}

// P8.1: Left and Taken change nothing.
func TestAskingChangesNothing(t *testing.T) {
	b := patternless(21, 70)
	s := New(b)
	for range 100 {
		standAt(t, s, 70, 0)
	}
	seedIs(t, s, b[:16])
	for range 100 {
		standAt(t, s, 54, 1)
	}
	restIs(t, s, b[16:])
}

// Rule 5 of the document: the same calls are answered the same, each time.
func TestSameCallsSameAnswers(t *testing.T) {
	b := patternless(22, 777)
	first := seedsOf(New(b))
	for range 5 {
		if !slices.Equal(seedsOf(New(bytes.Clone(b))), first) {
			t.Fatal("the same bytes gave other seeds")
		}
	}
}
