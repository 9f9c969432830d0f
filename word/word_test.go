package word_test

import (
	"bytes"
	"encoding/binary"
	"math"
	"math/rand"
	"slices"
	"strconv"
	"testing"

	"capnp/word"
)

// interestingWords have bits set at every boundary that a wrong shift or mask would confuse.
var interestingWords = []uint64{
	0, 1, 0x80, 0xff, 0x8000000000000000, 0x8000000000000201, 0x7fffffffffffffff,
	0xfffffffe00000001, 0x5555555555555555, 0xaaaaaaaaaaaaaaaa, 0x0123456789abcdef,
	0xfedcba9876543210, math.MaxUint64,
}

// bitField reads a bit field one bit at a time.
func bitField(w uint64, at, n int) uint64 {
	var v uint64
	for i := range n {
		if w&(1<<(at+i)) != 0 {
			v |= 1 << i
		}
	}
	return v
}

// eachBitField calls f for every valid bit field.
func eachBitField(f func(at, n int)) {
	for n := 1; n <= 64; n++ {
		for at := 0; at <= 64-n; at++ {
			f(at, n)
		}
	}
}

// randomBytes returns n bytes that are the same in every run.
func randomBytes(n int) []byte {
	b := make([]byte, n)
	rand.New(rand.NewSource(int64(n) + 1)).Read(b)
	return b
}

// P1.1: ordinary inputs.

func TestExampleOfTheChapter(t *testing.T) {
	const want = 0x8000000000000201
	b := []byte{1, 2, 0, 0, 0, 0, 0, 0x80}
	if w, ok := word.Get(b, 0); w != want || !ok {
		t.Errorf("Get = %#x, %v", w, ok)
	}
	if l, ok := word.Words(b); !ok || !slices.Equal(l, []uint64{want}) {
		t.Errorf("Words = %#x, %v", l, ok)
	}
	if got := word.Bytes([]uint64{want}); !bytes.Equal(got, b) {
		t.Errorf("Bytes = %x", got)
	}
}

func TestEveryByteHasItsPlace(t *testing.T) {
	for i := range 8 {
		b := make([]byte, 24)
		b[8+i] = 0xa5
		want := uint64(0xa5) << (8 * i)
		if w, ok := word.Get(b, 1); w != want || !ok {
			t.Errorf("byte %d: Get = %#x, %v", i, w, ok)
		}
		if l, ok := word.Words(b); !ok || !slices.Equal(l, []uint64{0, want, 0}) {
			t.Errorf("byte %d: Words = %#x, %v", i, l, ok)
		}
		if got := word.Bytes([]uint64{0, want, 0}); !bytes.Equal(got, b) {
			t.Errorf("byte %d: Bytes = %x", i, got)
		}
	}
}

func TestWordsAgreeWithTheLibrary(t *testing.T) {
	for n := range 40 {
		b := randomBytes(8 * n)
		l, ok := word.Words(b)
		if !ok || len(l) != n {
			t.Fatalf("%d words: %d, %v", n, len(l), ok)
		}
		for i := range n {
			want := binary.LittleEndian.Uint64(b[8*i:])
			if w, ok := word.Get(b, i); w != want || !ok || l[i] != want {
				t.Errorf("word %d of %d: %#x and %#x, want %#x", i, n, w, l[i], want)
			}
		}
	}
}

// P1.1: edge cases and invalid inputs.

func TestGetOutsideOfTheBytes(t *testing.T) {
	for n := range 26 {
		b := bytes.Repeat([]byte{0xff}, n)
		for i := -3; i <= 5; i++ {
			exists := i >= 0 && 8*i+7 < n
			w, ok := word.Get(b, i)
			if ok != exists || ok && w != math.MaxUint64 || !ok && w != 0 {
				t.Errorf("Get of %d bytes at %d = %#x, %v", n, i, w, ok)
			}
		}
	}
}

// 8*i and 8*i+8 overflow for some of these, to values that look like valid offsets.
func TestGetAtHugeIndices(t *testing.T) {
	b := bytes.Repeat([]byte{0xff}, 32)
	for _, i := range []int{
		math.MinInt, math.MinInt + 1, math.MinInt / 8, -1 << 61, -1<<61 + 1, -1 << 60,
		1 << 28, 1 << 29, 1 << 60, 1<<60 - 1, 1 << 61, 1<<61 - 1, 1<<61 + 1, 1 << 62,
		math.MaxInt / 8, math.MaxInt/8 + 1, math.MaxInt - 1, math.MaxInt,
	} {
		if w, ok := word.Get(b, i); w != 0 || ok {
			t.Errorf("Get at %d = %#x, %v", i, w, ok)
		}
	}
}

func TestGetIgnoresTheCapacity(t *testing.T) {
	b := bytes.Repeat([]byte{0xff}, 16)
	if w, ok := word.Get(b[:8], 1); w != 0 || ok {
		t.Errorf("Get behind the length = %#x, %v", w, ok)
	}
	if w, ok := word.Get(b[:15], 1); w != 0 || ok {
		t.Errorf("Get of an incomplete word = %#x, %v", w, ok)
	}
}

func TestWordsOfEveryLength(t *testing.T) {
	for n := range 66 {
		b := randomBytes(n)
		l, ok := word.Words(b)
		if n%8 == 0 && (!ok || len(l) != n/8) {
			t.Errorf("%d bytes: %d words, %v", n, len(l), ok)
		}
		if n%8 != 0 && (ok || l != nil) {
			t.Errorf("%d bytes: %#x, %v", n, l, ok)
		}
	}
}

func TestEmptyArguments(t *testing.T) {
	for _, b := range [][]byte{nil, {}} {
		if l, ok := word.Words(b); len(l) != 0 || !ok {
			t.Errorf("Words = %#x, %v", l, ok)
		}
		if w, ok := word.Get(b, 0); w != 0 || ok {
			t.Errorf("Get = %#x, %v", w, ok)
		}
	}
	for _, l := range [][]uint64{nil, {}} {
		if b := word.Bytes(l); len(b) != 0 {
			t.Errorf("Bytes = %x", b)
		}
	}
}

// P1.2

func TestFieldAndSignedOfKnownWords(t *testing.T) {
	const w = 0xfedcba9876543210
	for _, x := range []struct {
		w     uint64
		at, n int
		u     uint64
		s     int64
	}{
		{w, 0, 4, 0, 0},
		{w, 4, 4, 1, 1},
		{w, 4, 1, 1, -1},
		{w, 5, 1, 0, 0},
		{w, 63, 1, 1, -1},
		{w, 60, 4, 15, -1},
		{w, 48, 16, 0xfedc, -0x124},
		{w, 0, 32, 0x76543210, 0x76543210},
		{w, 32, 32, 0xfedcba98, -0x1234568},
		{w, 0, 63, 0x7edcba9876543210, -0x0123456789abcdf0},
		{w, 1, 63, 0x7f6e5d4c3b2a1908, -0x0091a2b3c4d5e6f8},
		{w, 0, 64, w, -0x0123456789abcdf0},
		{0xfffffffc, 2, 30, 1<<30 - 1, -1},
		{0x80000000, 2, 30, 1 << 29, -1 << 29},
		{0x7ffffffc, 2, 30, 1<<29 - 1, 1<<29 - 1},
		{1 << 63, 0, 64, 1 << 63, math.MinInt64},
		{math.MaxInt64, 0, 64, math.MaxInt64, math.MaxInt64},
		{math.MaxUint64, 0, 64, math.MaxUint64, -1},
	} {
		if u := word.Field(x.w, x.at, x.n); u != x.u {
			t.Errorf("Field(%#x, %d, %d) = %#x, want %#x", x.w, x.at, x.n, u, x.u)
		}
		if s := word.Signed(x.w, x.at, x.n); s != x.s {
			t.Errorf("Signed(%#x, %d, %d) = %d, want %d", x.w, x.at, x.n, s, x.s)
		}
	}
}

func TestInsertIntoKnownWords(t *testing.T) {
	for _, x := range []struct {
		w       uint64
		at, n   int
		v, want uint64
	}{
		{0, 0, 64, math.MaxUint64, math.MaxUint64},
		{math.MaxUint64, 0, 64, 0, 0},
		{0, 2, 30, math.MaxUint64, 0xfffffffc},
		{math.MaxUint64, 2, 30, 0, 0xffffffff00000003},
		{0, 63, 1, 3, 1 << 63},
		{0, 63, 1, 2, 0},
		{math.MaxUint64, 63, 1, 2, math.MaxInt64},
		{0x1111111111111111, 8, 8, 0xfff22, 0x1111111111112211},
		{5, 32, 16, 0x10001, 0x100000005},
	} {
		if w := word.Insert(x.w, x.at, x.n, x.v); w != x.want {
			t.Errorf("Insert(%#x, %d, %d, %#x) = %#x, want %#x", x.w, x.at, x.n, x.v, w, x.want)
		}
	}
}

func TestEveryBitField(t *testing.T) {
	for _, w := range interestingWords {
		eachBitField(func(at, n int) {
			want := bitField(w, at, n)
			if u := word.Field(w, at, n); u != want {
				t.Fatalf("Field(%#x, %d, %d) = %#x, want %#x", w, at, n, u, want)
			}
			signed := int64(want)
			if n < 64 && want >= 1<<(n-1) {
				signed -= 1 << n
			}
			if s := word.Signed(w, at, n); s != signed {
				t.Fatalf("Signed(%#x, %d, %d) = %d, want %d", w, at, n, s, signed)
			}
		})
	}
}

func TestInsertEveryBitField(t *testing.T) {
	for _, w := range interestingWords {
		for _, v := range interestingWords {
			eachBitField(func(at, n int) {
				got := word.Insert(w, at, n, v)
				for i := range 64 {
					want := w >> i & 1
					if at <= i && i < at+n {
						want = v >> (i - at) & 1
					}
					if got>>i&1 != want {
						t.Fatalf("Insert(%#x, %d, %d, %#x) = %#x: bit %d", w, at, n, v, got, i)
					}
				}
			})
		}
	}
}

// The promises leave invalid bit fields open; P1 and the rules of the language still forbid a panic.
func TestInvalidBitFieldsDoNotPanic(t *testing.T) {
	ends := []int{math.MinInt, -65, -64, -1, 0, 1, 63, 64, 65, math.MaxInt}
	for _, at := range ends {
		for _, n := range ends {
			word.Field(math.MaxUint64, at, n)
			word.Signed(math.MaxUint64, at, n)
			word.Insert(math.MaxUint64, at, n, math.MaxUint64)
		}
	}
}

// P1.3

func TestWordsAndBytesAreInverse(t *testing.T) {
	for n := range 20 {
		b := randomBytes(8 * n)
		l, ok := word.Words(b)
		if got := word.Bytes(l); !ok || !bytes.Equal(got, b) {
			t.Errorf("%d words: bytes %x, want %x", n, got, b)
		}
	}
	b := word.Bytes(interestingWords)
	if len(b) != 8*len(interestingWords) {
		t.Fatalf("%d bytes", len(b))
	}
	if l, ok := word.Words(b); !ok || !slices.Equal(l, interestingWords) {
		t.Errorf("words %#x", l)
	}
}

func TestFieldReadsWhatWasInserted(t *testing.T) {
	for _, w := range interestingWords {
		for _, v := range interestingWords {
			eachBitField(func(at, n int) {
				got := word.Insert(w, at, n, v)
				if u := word.Field(got, at, n); u != bitField(v, 0, n) {
					t.Fatalf("%#x into %d, %d of %#x reads as %#x", v, at, n, w, u)
				}
				if s := word.Signed(got, at, n); s != word.Signed(v, 0, n) {
					t.Fatalf("%#x into %d, %d of %#x reads as %d", v, at, n, w, s)
				}
				if back := word.Insert(got, at, n, word.Field(w, at, n)); back != w {
					t.Fatalf("the old field %d, %d of %#x gives %#x", at, n, w, back)
				}
			})
		}
	}
}

// P1.4

func TestArgumentsAreNotModified(t *testing.T) {
	for _, n := range []int{0, 7, 8, 16, 19, 24} {
		t.Run(strconv.Itoa(n), func(t *testing.T) {
			whole := randomBytes(32)
			kept := slices.Clone(whole)
			word.Words(whole[:n])
			word.Get(whole[:n], 0)
			word.Get(whole[:n], 2)
			if !bytes.Equal(whole, kept) {
				t.Errorf("bytes or unused capacity changed: %x, were %x", whole, kept)
			}
		})
	}
	whole := slices.Clone(interestingWords)
	word.Bytes(whole[:4])
	if !slices.Equal(whole, interestingWords) {
		t.Errorf("words or unused capacity changed: %#x", whole)
	}
}

func TestResultsDoNotShareMemory(t *testing.T) {
	b := randomBytes(32)
	kept := slices.Clone(b)
	l, _ := word.Words(b)
	again, _ := word.Words(b)
	clear(again)
	if !bytes.Equal(b, kept) || !bytes.Equal(word.Bytes(l), kept) {
		t.Error("a change of the words that Words returned is visible elsewhere")
	}
	clear(b)
	if !bytes.Equal(word.Bytes(l), kept) {
		t.Error("a change of the argument of Words is visible in its result")
	}

	words := slices.Clone(interestingWords)
	out := word.Bytes(words)
	want := slices.Clone(out)
	clear(word.Bytes(words))
	clear(words)
	if !bytes.Equal(out, want) {
		t.Error("the result of Bytes changed with its argument or with a later result")
	}
	clear(out)
	if !bytes.Equal(word.Bytes(interestingWords), want) {
		t.Error("a change of a result of Bytes is visible in a later one")
	}
}
