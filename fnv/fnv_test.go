package fnv_test

import (
	"bytes"
	"encoding/binary"
	libfnv "hash/fnv"
	"math"
	"math/big"
	"math/rand"
	"slices"
	"strings"
	"testing"

	"capnp/fnv"
)

const (
	initial = 0xcbf29ce484222325
	factor  = 0x100000001b3
)

// states have bits at the places that a wrong width, sign or order of the steps would confuse.
var states = []uint64{
	0, 1, 0x7f, 0x80, 0xff, 0x100, 1 << 31, 1 << 32, 1 << 63, math.MaxInt64, math.MaxUint64,
	factor, initial, 0x0123456789abcdef, 0xfedcba9876543210,
}

// after returns the state after the bytes of b as the chapter defines it, with integers that cannot wrap around.
func after(state uint64, b []byte) uint64 {
	modulus := new(big.Int).Lsh(big.NewInt(1), 64)
	x := new(big.Int).SetUint64(state)
	for _, v := range b {
		x.Xor(x, big.NewInt(int64(v)))
		x.Mul(x, big.NewInt(factor))
		x.Mod(x, modulus)
	}
	return x.Uint64()
}

// undo returns the state before the bytes of b.
func undo(state uint64, b []byte) uint64 {
	// Each step of Newton's method doubles the number of right low bits of the inverse of the factor.
	inverse := uint64(1)
	for range 6 {
		inverse *= 2 - factor*inverse
	}
	for _, v := range slices.Backward(b) {
		state = state*inverse ^ uint64(v)
	}
	return state
}

// library returns the hash of b by the standard library.
func library(b []byte) uint64 {
	h := libfnv.New64a()
	h.Write(b)
	return h.Sum64()
}

// encoding returns the concatenated encodings of the words.
func encoding(words []uint64) []byte {
	var b []byte
	for _, w := range words {
		b = binary.LittleEndian.AppendUint64(b, w)
	}
	return b
}

// randomBytes returns n bytes that are the same in every run.
func randomBytes(n int) []byte {
	b := make([]byte, n)
	rand.New(rand.NewSource(int64(n) + 1)).Read(b)
	return b
}

// randomWords returns n words that are the same in every run.
func randomWords(n int) []uint64 {
	r := rand.New(rand.NewSource(int64(n) + 1))
	words := make([]uint64, n)
	for i := range words {
		words[i] = r.Uint64()
	}
	return words
}

// P18.1: ordinary inputs.

func TestStart(t *testing.T) {
	if got := fnv.Start(); got != initial {
		t.Errorf("Start() = %x", got)
	}
}

// The hashes are written out, so that they do not depend on the constants of this file.
func TestKnownHashes(t *testing.T) {
	for _, x := range []struct {
		text string
		hash uint64
	}{
		{"", 0xcbf29ce484222325},
		{"a", 0xaf63dc4c8601ec8c},
		{"b", 0xaf63df4c8601f1a5},
		{"c", 0xaf63de4c8601eff2},
		{"d", 0xaf63d94c8601e773},
		{"e", 0xaf63d84c8601e5c0},
		{"f", 0xaf63db4c8601ead9},
		{"fo", 0x08985907b541d342},
		{"foo", 0xdcb27518fed9d577},
		{"foob", 0xdd120e790c2512af},
		{"fooba", 0xcac165afa2fef40a},
		{"foobar", 0x85944171f73967e8},
		{"\x00", 0xaf63bd4c8601b7df},
		{"\xff\x00\x00\x01", 0x6961196491cc682d},
	} {
		if got := fnv.Sum([]byte(x.text)); got != x.hash {
			t.Errorf("Sum(%q) = %x, want %x", x.text, got, x.hash)
		}
		if got := fnv.Add(initial, []byte(x.text)); got != x.hash {
			t.Errorf("Add(initial, %q) = %x, want %x", x.text, got, x.hash)
		}
	}
}

func TestHashesOfKnownWords(t *testing.T) {
	for _, x := range []struct {
		words []uint64
		text  string
	}{
		{nil, ""},
		{[]uint64{0}, strings.Repeat("\x00", 8)},
		{[]uint64{0, 0}, strings.Repeat("\x00", 16)},
		{[]uint64{1}, "\x01\x00\x00\x00\x00\x00\x00\x00"},
		{[]uint64{1 << 63}, "\x00\x00\x00\x00\x00\x00\x00\x80"},
		{[]uint64{math.MaxUint64}, strings.Repeat("\xff", 8)},
		{[]uint64{0x6867666564636261}, "abcdefgh"},
		{[]uint64{0x6867666564636261, 0x706f6e6d6c6b6a69}, "abcdefghijklmnop"},
		{[]uint64{0x0000000100000000, 5}, "\x00\x00\x00\x00\x01\x00\x00\x00\x05\x00\x00\x00\x00\x00\x00\x00"},
	} {
		if got, want := fnv.Words(x.words), after(initial, []byte(x.text)); got != want {
			t.Errorf("Words(%#x) = %x, want %x", x.words, got, want)
		}
	}
	// The hash of a null root pointer, written out.
	if got := fnv.Words([]uint64{0}); got != 0xa8c7f832281a39c5 {
		t.Errorf("Words of the word 0 = %x", got)
	}
}

func TestEveryByteInEveryState(t *testing.T) {
	for _, s := range states {
		for v := range 256 {
			b := []byte{byte(v)}
			if got, want := fnv.Add(s, b), after(s, b); got != want {
				t.Errorf("Add(%x, %x) = %x, want %x", s, b, got, want)
			}
		}
	}
}

func TestAllPairsOfBytes(t *testing.T) {
	for v := range 1 << 16 {
		b := []byte{byte(v), byte(v >> 8)}
		if got, want := fnv.Sum(b), library(b); got != want {
			t.Fatalf("Sum(%x) = %x, want %x", b, got, want)
		}
	}
}

func TestEveryLength(t *testing.T) {
	for n := range 300 {
		b := randomBytes(n)
		if got, want := fnv.Sum(b), after(initial, b); got != want {
			t.Errorf("Sum of %d bytes = %x, want %x", n, got, want)
		}
		for _, s := range states {
			if got, want := fnv.Add(s, b), after(s, b); got != want {
				t.Errorf("Add(%x, %d bytes) = %x, want %x", s, n, got, want)
			}
		}
	}
}

func TestEveryNumberOfWords(t *testing.T) {
	for n := range 150 {
		words := randomWords(n)
		if got, want := fnv.Words(words), after(initial, encoding(words)); got != want {
			t.Errorf("Words of %d words = %x, want %x", n, got, want)
		}
	}
}

func TestEachBitOfAWord(t *testing.T) {
	for _, base := range []uint64{0, math.MaxUint64, 0x0123456789abcdef} {
		for i := range 64 {
			words := []uint64{base, base ^ 1<<i, base}
			if got, want := fnv.Words(words), library(encoding(words)); got != want {
				t.Errorf("Words(%#x) = %x, want %x", words, got, want)
			}
		}
	}
}

// P18.1: edge cases.

func TestNilAndEmptySlices(t *testing.T) {
	for _, b := range [][]byte{nil, {}} {
		if got := fnv.Sum(b); got != initial {
			t.Errorf("Sum of no bytes = %x", got)
		}
		for _, s := range states {
			if got := fnv.Add(s, b); got != s {
				t.Errorf("Add(%x, no bytes) = %x", s, got)
			}
		}
	}
	for _, words := range [][]uint64{nil, {}} {
		if got := fnv.Words(words); got != initial {
			t.Errorf("Words of no words = %x", got)
		}
	}
}

// A byte 0 leaves the exclusive or unchanged but not the product.
func TestZeroBytesCount(t *testing.T) {
	want := uint64(initial)
	for n := range 100 {
		if got := fnv.Sum(make([]byte, n)); got != want {
			t.Errorf("Sum of %d zero bytes = %x, want %x", n, got, want)
		}
		if n%8 == 0 && fnv.Words(make([]uint64, n/8)) != want {
			t.Errorf("Words of %d zero words is not %x", n/8, want)
		}
		if got := fnv.Add(0, make([]byte, n)); got != 0 {
			t.Errorf("Add(0, %d zero bytes) = %x", n, got)
		}
		want *= factor
	}
}

func TestLongInputs(t *testing.T) {
	for _, n := range []int{1<<16 - 1, 1 << 16, 1<<20 + 1, 1 << 24} {
		b := randomBytes(n)
		if got, want := fnv.Sum(b), library(b); got != want {
			t.Errorf("Sum of %d bytes = %x, want %x", n, got, want)
		}
	}
	for _, n := range []int{8191, 8192, 1<<17 + 1, 1 << 21} {
		words := randomWords(n)
		if got, want := fnv.Words(words), library(encoding(words)); got != want {
			t.Errorf("Words of %d words = %x, want %x", n, got, want)
		}
	}
}

func TestOrderCounts(t *testing.T) {
	for n := 2; n < 40; n++ {
		b, words := make([]byte, n), make([]uint64, n)
		for i := range n {
			b[i], words[i] = byte(n-i), uint64(n-i)
		}
		sum, hash := fnv.Sum(b), fnv.Words(words)
		slices.Reverse(b)
		slices.Reverse(words)
		if got, want := fnv.Sum(b), after(initial, b); got != want || got == sum {
			t.Errorf("Sum(%x) = %x, want %x, and backwards %x", b, got, want, sum)
		}
		if got, want := fnv.Words(words), after(initial, encoding(words)); got != want || got == hash {
			t.Errorf("Words(%#x) = %x, want %x, and backwards %x", words, got, want, hash)
		}
	}
}

func TestUnusedCapacityIsNotHashed(t *testing.T) {
	b, words := randomBytes(40), randomWords(40)
	for n := range 41 {
		if got, want := fnv.Sum(b[:n]), library(slices.Clone(b[:n])); got != want {
			t.Errorf("Sum of %d of 40 bytes = %x, want %x", n, got, want)
		}
		if got, want := fnv.Words(words[:n]), library(encoding(words[:n])); got != want {
			t.Errorf("Words of %d of 40 words = %x, want %x", n, got, want)
		}
	}
}

func TestResultsDependOnArgumentsOnly(t *testing.T) {
	b, words := randomBytes(19), randomWords(3)
	sum, added, hash := fnv.Sum(b), fnv.Add(7, b), fnv.Words(words)
	for range 3 {
		fnv.Add(1, []byte{9, 8, 7})
		if fnv.Start() != initial || fnv.Sum(b) != sum || fnv.Add(7, b) != added || fnv.Words(words) != hash {
			t.Fatal("a repeated call has another result")
		}
	}
}

// P18.2

func TestSumOfConcatenations(t *testing.T) {
	for n := range 70 {
		b := randomBytes(n)
		want := fnv.Sum(b)
		for i := range n + 1 {
			if got := fnv.Add(fnv.Sum(b[:i]), b[i:]); got != want {
				t.Errorf("Add of the last %d of %d bytes = %x, want %x", n-i, n, got, want)
			}
		}
		state := fnv.Start()
		for i := range b {
			state = fnv.Add(state, b[i:i+1])
		}
		if state != want {
			t.Errorf("%d bytes one by one = %x, want %x", n, state, want)
		}
	}
}

func TestAddOfConcatenations(t *testing.T) {
	b := randomBytes(33)
	for _, s := range states {
		want := fnv.Add(s, b)
		for i := range len(b) + 1 {
			for j := i; j <= len(b); j++ {
				got := fnv.Add(fnv.Add(fnv.Add(s, b[:i]), b[i:j]), b[j:])
				if got != want {
					t.Fatalf("Add to %x in parts that end at %d and %d = %x, want %x", s, i, j, got, want)
				}
			}
		}
	}
}

func TestWordsOfConcatenations(t *testing.T) {
	words := randomWords(40)
	want := fnv.Words(words)
	for i := range len(words) + 1 {
		if got := fnv.Add(fnv.Words(words[:i]), encoding(words[i:])); got != want {
			t.Errorf("the last %d words added = %x, want %x", len(words)-i, got, want)
		}
		if got := fnv.Sum(encoding(words[:i])); got != fnv.Words(words[:i]) {
			t.Errorf("Sum of the encoding of %d words = %x, want %x", i, got, fnv.Words(words[:i]))
		}
	}
}

func TestStatesStayDifferent(t *testing.T) {
	for n := range 40 {
		b := randomBytes(n)
		seen := map[uint64]uint64{}
		for _, s := range states {
			for i := range 65 {
				// The last shift leaves no bit, so that the state itself is among its neighbours.
				before := s ^ 1<<i
				now := fnv.Add(before, b)
				if other, found := seen[now]; found && other != before {
					t.Errorf("the states %x and %x are both %x after %x", before, other, now, b)
				}
				seen[now] = before
			}
		}
	}
}

// A state that can be computed from the one after it differs for different states.
func TestStatesCanBeComputedBack(t *testing.T) {
	for _, s := range states {
		for v := range 256 {
			b := []byte{byte(v)}
			if got := undo(fnv.Add(s, b), b); got != s {
				t.Errorf("the state before %x is %x, want %x", b, got, s)
			}
		}
		for n := range 100 {
			b := randomBytes(n)
			if got := undo(fnv.Add(s, b), b); got != s {
				t.Errorf("the state before %d bytes is %x, want %x", n, got, s)
			}
		}
	}
}

// P18.3

func TestArgumentsAreNotModified(t *testing.T) {
	for _, n := range []int{0, 1, 7, 8, 9, 24, 32} {
		b, words := randomBytes(32), randomWords(32)
		keptBytes, keptWords := slices.Clone(b), slices.Clone(words)
		fnv.Add(initial, b[:n])
		fnv.Sum(b[:n])
		fnv.Words(words[:n])
		if !bytes.Equal(b, keptBytes) {
			t.Errorf("bytes or unused capacity changed: %x, were %x", b, keptBytes)
		}
		if !slices.Equal(words, keptWords) {
			t.Errorf("words or unused capacity changed: %#x, were %#x", words, keptWords)
		}
	}
}
