// Package word is layer 1: numbers as bytes, turned, and cut: see shared/doc/01-word.md.
package word

const (
	wordBytes = 8
	wordBits  = 64
)

// Put is the width lowest bytes of n, the highest of them first.
func Put(n uint64, width int) []byte {
	width = held(width, wordBytes)
	b := make([]byte, width)
	for i := range width {
		b[width-1-i] = byte(n >> (8 * i))
	}
	return b
}

// Get is the number of the first eight bytes, the highest first.
func Get(b []byte) uint64 {
	var n uint64
	for i := range min(len(b), wordBytes) {
		n = n<<8 | uint64(b[i])
	}
	return n
}

// Low is the number of the first eight bytes, the lowest first.
func Low(b []byte) uint64 {
	var n uint64
	for i := range min(len(b), wordBytes) {
		n |= uint64(b[i]) << (8 * i)
	}
	return n
}

// Turn is x with its bits turned by k places to the left.
func Turn(x uint64, k int) uint64 {
	// Go's remainder takes the sign of k; a second one brings it to 0 and above.
	k = (k%wordBits + wordBits) % wordBits
	return x<<k | x>>(wordBits-k)
}

// Cut is the number of the width bits of x from the bit from on.
func Cut(x uint64, from, width int) uint64 {
	from = held(from, wordBits)
	width = held(width, wordBits)
	// A shift by all 64 bits leaves 0, so the bounds need no case of their own.
	above := ^uint64(0) << width
	return (x >> from) &^ above
}

// held is n held within 0 and most.
func held(n, most int) int {
	return max(0, min(n, most))
}
