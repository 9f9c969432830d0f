// Package word is layer 1, little-endian 64-bit words: see shared/doc/01-word.md.
package word

const (
	byteBits  = 8
	wordBytes = 8
	wordBits  = wordBytes * byteBits
)

// Get returns the word that the bytes 8i to 8i+7 of b encode, and whether these bytes all exist.
func Get(b []byte, i int) (uint64, bool) {
	// Comparing with the number of whole words avoids 8*i, which overflows for large i.
	if i < 0 || i >= len(b)/wordBytes {
		return 0, false
	}
	return decode(b[wordBytes*i:]), true
}

// Words returns the words that b encodes, and whether its length is a multiple of 8.
func Words(b []byte) ([]uint64, bool) {
	if len(b)%wordBytes != 0 {
		return nil, false
	}
	words := make([]uint64, len(b)/wordBytes)
	for i := range len(words) {
		words[i] = decode(b[wordBytes*i:])
	}
	return words, true
}

// Bytes returns the concatenated encodings of the words.
func Bytes(words []uint64) []byte {
	b := make([]byte, wordBytes*len(words))
	for i, w := range words {
		encode(b[wordBytes*i:], w)
	}
	return b
}

// Field returns the unsigned value of the n bits of w that start at bit at.
func Field(w uint64, at, n int) uint64 {
	return w >> uint(at) & lowBits(n)
}

// Signed returns the two's complement value of the n bits of w that start at bit at.
func Signed(w uint64, at, n int) int64 {
	// The field is moved to the top, so that the arithmetic shift back extends its sign bit.
	unused := uint(wordBits - n)
	return int64(Field(w, at, n)<<unused) >> unused
}

// Insert returns w with the n bits that start at bit at replaced by the low n bits of v.
func Insert(w uint64, at, n int, v uint64) uint64 {
	mask := lowBits(n)
	return w&^(mask<<uint(at)) | v&mask<<uint(at)
}

// lowBits returns the word whose low n bits are 1. Shift counts are converted to uint
// throughout, because a negative one, from an invalid bit field, would panic.
func lowBits(n int) uint64 {
	return ^uint64(0) >> uint(wordBits-n)
}

// decode returns the word that the first 8 bytes of b encode.
func decode(b []byte) uint64 {
	var w uint64
	for i := range wordBytes {
		w |= uint64(b[i]) << uint(byteBits*i)
	}
	return w
}

// encode stores the encoding of w in the first 8 bytes of b.
func encode(b []byte, w uint64) {
	for i := range wordBytes {
		b[i] = byte(w >> uint(byteBits*i))
	}
}
