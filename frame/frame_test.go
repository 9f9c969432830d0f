package frame_test

import (
	"bytes"
	"encoding/binary"
	"math"
	"math/rand"
	"slices"
	"testing"
	"unsafe"

	"capnp/api"
	"capnp/frame"
)

// known are messages and their framed encodings.
var known = []struct {
	name string
	segs [][]uint64
	b    []byte
}{
	{"an empty segment", [][]uint64{{}}, []byte{0, 0, 0, 0, 0, 0, 0, 0}},
	{"one word", [][]uint64{{0x8000000000000201}}, []byte{
		0, 0, 0, 0, 1, 0, 0, 0,
		1, 2, 0, 0, 0, 0, 0, 0x80,
	}},
	{"two words", [][]uint64{{0x0000000100000000, 5}}, []byte{
		0, 0, 0, 0, 2, 0, 0, 0,
		0, 0, 0, 0, 1, 0, 0, 0,
		5, 0, 0, 0, 0, 0, 0, 0,
	}},
	{"two segments", [][]uint64{{1}, {2, 3}}, []byte{
		1, 0, 0, 0, 1, 0, 0, 0,
		2, 0, 0, 0, 0, 0, 0, 0,
		1, 0, 0, 0, 0, 0, 0, 0,
		2, 0, 0, 0, 0, 0, 0, 0,
		3, 0, 0, 0, 0, 0, 0, 0,
	}},
	{"two empty segments", [][]uint64{{}, {}}, []byte{
		1, 0, 0, 0, 0, 0, 0, 0,
		0, 0, 0, 0, 0, 0, 0, 0,
	}},
	{"three segments", [][]uint64{{7}, {}, {math.MaxUint64}}, []byte{
		2, 0, 0, 0, 1, 0, 0, 0,
		0, 0, 0, 0, 1, 0, 0, 0,
		7, 0, 0, 0, 0, 0, 0, 0,
		255, 255, 255, 255, 255, 255, 255, 255,
	}},
	{"four segments", [][]uint64{{}, {8}, {}, {9}}, []byte{
		3, 0, 0, 0, 0, 0, 0, 0,
		1, 0, 0, 0, 0, 0, 0, 0,
		1, 0, 0, 0, 0, 0, 0, 0,
		8, 0, 0, 0, 0, 0, 0, 0,
		9, 0, 0, 0, 0, 0, 0, 0,
	}},
}

// framed is the definition of the chapter for messages, written with the library's encoding.
func framed(segs [][]uint64) []byte {
	b := binary.LittleEndian.AppendUint32(nil, uint32(len(segs)-1))
	for _, seg := range segs {
		b = binary.LittleEndian.AppendUint32(b, uint32(len(seg)))
	}
	if len(segs)%2 == 0 {
		b = append(b, 0, 0, 0, 0)
	}
	for _, seg := range segs {
		for _, w := range seg {
			b = binary.LittleEndian.AppendUint64(b, w)
		}
	}
	return b
}

// randomMessage returns a message with n segments of at most words words each.
func randomMessage(source *rand.Rand, n, words int) [][]uint64 {
	segs := make([][]uint64, n)
	for i := range segs {
		segs[i] = make([]uint64, source.Intn(words+1))
		for k := range segs[i] {
			segs[i][k] = source.Uint64()
		}
	}
	return segs
}

// eachMessage calls f for messages of all small numbers of segments, and of those at the end of the range, that are the same in every run.
func eachMessage(f func(segs [][]uint64)) {
	source := rand.New(rand.NewSource(4))
	for n := 1; n <= 20; n++ {
		for words := range 8 {
			f(randomMessage(source, n, words))
		}
	}
	for _, n := range []int{63, 64, 127, 128, 255, 256, 257, 509, 510, 511, 512} {
		f(randomMessage(source, n, 0))
		f(randomMessage(source, n, 3))
	}
	f(randomMessage(source, 1, 3000))
	f(randomMessage(source, 4, 3000))
}

func sameMessage(a, b [][]uint64) bool {
	return slices.EqualFunc(a, b, slices.Equal[[]uint64])
}

// checkMalformed checks that Parse rejects b.
func checkMalformed(t *testing.T, name string, b []byte) {
	t.Helper()
	if segs, err := frame.Parse(b); segs != nil || err != api.ErrFrame {
		t.Errorf("%s: Parse of %d bytes = %d segments, %d", name, len(b), len(segs), err)
	}
}

// numbers returns the encodings of 4-byte integers.
func numbers(values ...uint32) []byte {
	var b []byte
	for _, v := range values {
		b = binary.LittleEndian.AppendUint32(b, v)
	}
	return b
}

// P4.1: ordinary inputs.

func TestKnownMessages(t *testing.T) {
	for _, x := range known {
		if segs, err := frame.Parse(x.b); err != api.OK || !sameMessage(segs, x.segs) {
			t.Errorf("%s: Parse = %#x, %d", x.name, segs, err)
		}
		if b, err := frame.Serialize(x.segs); err != api.OK || !bytes.Equal(b, x.b) {
			t.Errorf("%s: Serialize = %x, %d", x.name, b, err)
		}
	}
}

func TestMessagesAgreeWithTheDefinition(t *testing.T) {
	eachMessage(func(segs [][]uint64) {
		want := framed(segs)
		if b, err := frame.Serialize(segs); err != api.OK || !bytes.Equal(b, want) {
			t.Errorf("Serialize of %d segments = %d bytes, %d, want %d bytes", len(segs), len(b), err, len(want))
		}
		if got, err := frame.Parse(want); err != api.OK || !sameMessage(got, segs) {
			t.Errorf("Parse of %d segments = %d segments, %d", len(segs), len(got), err)
		}
	})
}

func TestNilSegmentsAreEmpty(t *testing.T) {
	if b, err := frame.Serialize([][]uint64{nil, {1}, nil}); err != api.OK || !bytes.Equal(b, framed([][]uint64{{}, {1}, {}})) {
		t.Errorf("Serialize = %x, %d", b, err)
	}
}

// Every number of the table has its place: a message with a single segment that has words is framed for each of its places.
func TestEverySizeHasItsPlace(t *testing.T) {
	for _, n := range []int{1, 2, 3, 4, 5, 6, 31, 32, 511, 512} {
		for i := range n {
			segs := make([][]uint64, n)
			segs[i] = slices.Repeat([]uint64{0xa5}, 258)
			b, err := frame.Serialize(segs)
			if err != api.OK || !bytes.Equal(b, framed(segs)) {
				t.Fatalf("Serialize of segment %d of %d = %d bytes, %d", i, n, len(b), err)
			}
			if got, err := frame.Parse(b); err != api.OK || !sameMessage(got, segs) {
				t.Fatalf("Parse of segment %d of %d = %d segments, %d", i, n, len(got), err)
			}
		}
	}
}

// P4.1: invalid inputs of Parse.

func TestNoBytesAreNoMessage(t *testing.T) {
	checkMalformed(t, "nil", nil)
	checkMalformed(t, "empty", []byte{})
}

func TestEveryPrefixIsMalformed(t *testing.T) {
	for _, x := range known {
		for n := range x.b {
			// The bytes behind the prefix stay in its capacity, where they must not be read.
			checkMalformed(t, x.name, x.b[:n])
		}
	}
	b := framed(make([][]uint64, 512))
	for n := range b {
		checkMalformed(t, "512 empty segments", b[:n])
	}
}

func TestTrailingBytesAreMalformed(t *testing.T) {
	for _, x := range known {
		for n := 1; n <= 24; n++ {
			checkMalformed(t, x.name, append(slices.Clone(x.b), make([]byte, n)...))
		}
		checkMalformed(t, x.name, append(slices.Clone(x.b), x.b...))
	}
}

func TestPaddingThatIsNotZeroIsMalformed(t *testing.T) {
	for n := 2; n <= 512; n += 2 {
		segs := make([][]uint64, n)
		segs[n-1] = []uint64{1}
		for i := range 4 {
			for _, v := range []byte{1, 0x80, 0xff} {
				b := framed(segs)
				b[4+4*n+i] = v
				checkMalformed(t, "padding", b)
			}
		}
	}
}

func TestNumbersOfSegmentsOutOfRange(t *testing.T) {
	for _, n := range []uint32{512, 513, 514, 767, 1 << 10, 1<<16 - 1, 1 << 16, 1<<16 + 1, 1 << 24, 1<<31 - 1, 1 << 31, 1<<31 + 1, math.MaxUint32 - 1, math.MaxUint32} {
		b := make([]byte, 1<<13)
		binary.LittleEndian.PutUint32(b, n)
		checkMalformed(t, "zeros", b)
		checkMalformed(t, "a single word", b[:8])
		if n < 1<<10 {
			checkMalformed(t, "a table of this length", b[:8*((n+1)/2+1)])
		}
	}
}

// Products and sums of these sizes with 32 bits wrap around to what b has.
func TestSizesOutOfRange(t *testing.T) {
	for _, x := range [][]uint32{
		{0, 1 << 29}, {0, 1 << 29, 0, 0}, {0, 1<<29 + 1, 0, 0}, {0, 1<<29 - 1}, {0, 1 << 28}, {0, 1 << 30}, {0, 1 << 31}, {0, 1 << 31, 0, 0},
		{0, math.MaxUint32}, {0, math.MaxUint32 - 1, 0, 0}, {0, 1<<32 - 1<<29}, {0, 1<<32 - 1<<28},
		{1, 1 << 28, 1 << 28, 0}, {1, 1 << 31, 1 << 31, 0}, {1, math.MaxUint32, 1, 0}, {1, 1, math.MaxUint32, 0},
		{1, math.MaxUint32, 2, 0, 0, 0}, {1, 2, math.MaxUint32, 0, 0, 0},
		{3, 1 << 30, 1 << 30, 1 << 30, 1 << 30, 0}, {3, 1 << 29, 1 << 29, 1 << 29, 1 << 29, 0},
		{3, 1 << 28, 1 << 28, 1 << 28, 1 << 28, 0}, {3, 1 << 27, 1 << 27, 1 << 27, 1 << 27, 0},
	} {
		checkMalformed(t, "sizes", numbers(x...))
	}
	table := slices.Repeat([]uint32{1<<29 - 1}, 514)
	table[0], table[513] = 511, 0
	checkMalformed(t, "all sizes are the largest", numbers(table...))
}

func TestSizesThatDoNotMatchTheWords(t *testing.T) {
	for _, x := range known {
		for i := range x.segs {
			for _, change := range []int{-2, -1, 1, 2, 0x100, 0x10000, 0x1000000, 0x10000000, -0x80000000} {
				b := slices.Clone(x.b)
				binary.LittleEndian.PutUint32(b[4+4*i:], uint32(len(x.segs[i])+change))
				checkMalformed(t, x.name, b)
			}
		}
	}
}

// A framed encoding is the only one of its message, so whatever Parse accepts is serialized to the same bytes.
func TestParseAcceptsFramedEncodingsOnly(t *testing.T) {
	check := func(b []byte) {
		segs, err := frame.Parse(b)
		switch {
		case err == api.OK && (len(segs) == 0 || len(segs) > 512 || !bytes.Equal(framed(segs), b)):
			t.Errorf("Parse(%x) = %#x", b, segs)
		case err != api.OK && (segs != nil || err != api.ErrFrame):
			t.Errorf("Parse(%x) = %#x, %d", b, segs, err)
		}
	}
	for _, x := range known {
		for i := range x.b {
			for v := range 256 {
				b := slices.Clone(x.b)
				b[i] = byte(v)
				check(b)
			}
		}
	}
	source := rand.New(rand.NewSource(5))
	for range 100000 {
		b := make([]byte, source.Intn(49))
		for i := range b {
			// Small numbers, most of them zero, often give tables whose sizes match.
			if source.Intn(3) == 0 {
				b[i] = byte(source.Intn(4))
			}
		}
		check(b)
	}
}

// P4.1: invalid inputs of Serialize.

func TestListsOfSegmentsThatAreNoMessage(t *testing.T) {
	for _, segs := range [][][]uint64{
		nil, {}, make([][]uint64, 513), make([][]uint64, 514), make([][]uint64, 1024), make([][]uint64, 1<<16+1),
		slices.Repeat([][]uint64{{1}}, 513),
	} {
		if b, err := frame.Serialize(segs); b != nil || err != api.ErrFrame {
			t.Errorf("Serialize of %d segments = %d bytes, %d", len(segs), len(b), err)
		}
	}
}

// longSegment returns a segment that has 2^29 words by its length only: really to allocate 2^32 bytes
// takes up to ten seconds, where the memory has to be cleared. The race detector would object to it.
//
//go:nocheckptr
func longSegment() []uint64 {
	return unsafe.Slice(new(uint64), 1<<29)
}

// Serialize must reject a segment that is too long by its length, before it reads a word of it.
func TestSegmentsWithTooManyWords(t *testing.T) {
	long := longSegment()
	for _, segs := range [][][]uint64{{long}, {{1}, long}, {long, {}, {2}}, {{1}, {2}, long, {}}} {
		if b, err := frame.Serialize(segs); b != nil || err != api.ErrFrame {
			t.Errorf("Serialize of %d segments = %d bytes, %d", len(segs), len(b), err)
		}
	}
}

// P4.2

func TestTableBytesOfEveryNumberOfSegments(t *testing.T) {
	for n := 1; n <= 512; n++ {
		want := 4 + 4*n
		for want%8 != 0 {
			want += 4
		}
		if got := frame.TableBytes(n); got != want {
			t.Errorf("TableBytes(%d) = %d, want %d", n, got, want)
		}
		b, err := frame.Serialize(make([][]uint64, n))
		if err != api.OK || len(b) != want {
			t.Errorf("Serialize of %d empty segments = %d bytes, %d, want %d bytes", n, len(b), err, want)
		}
	}
}

// The promises leave other numbers open; P1 and the rules of the language still forbid a panic.
func TestTableBytesOfOtherNumbersDoesNotPanic(t *testing.T) {
	for _, n := range []int{math.MinInt, -1, 0, 513, math.MaxInt / 4, math.MaxInt} {
		frame.TableBytes(n)
	}
}

// P4.3

func TestParseAndSerializeAreInverse(t *testing.T) {
	eachMessage(func(segs [][]uint64) {
		b, err := frame.Serialize(segs)
		if err != api.OK {
			t.Fatalf("Serialize of %d segments: %d", len(segs), err)
		}
		got, err := frame.Parse(b)
		if err != api.OK || !sameMessage(got, segs) {
			t.Fatalf("Parse of %d segments = %d segments, %d", len(segs), len(got), err)
		}
		if again, err := frame.Serialize(got); err != api.OK || !bytes.Equal(again, b) {
			t.Fatalf("Serialize of %d parsed segments = %d bytes, %d", len(segs), len(again), err)
		}
	})
}

// P4.4

func TestArgumentsAreNotModified(t *testing.T) {
	for _, x := range known {
		for _, n := range []int{len(x.b) - 1, len(x.b)} {
			whole := append(slices.Clone(x.b), 0xff, 0xfe, 0xfd)
			kept := slices.Clone(whole)
			frame.Parse(whole[:n])
			if !bytes.Equal(whole, kept) {
				t.Errorf("%s: Parse changed its bytes or their unused capacity: %x, were %x", x.name, whole, kept)
			}
		}
	}
	whole := []uint64{1, 2, 3, 4, 5, 6}
	list := [][]uint64{whole[:2], whole[2:2], whole[3:5], whole[5:], {7}}
	frame.Serialize(list[:3])
	if !slices.Equal(whole, []uint64{1, 2, 3, 4, 5, 6}) {
		t.Errorf("Serialize changed words or unused capacity: %d", whole)
	}
	if !sameMessage(list, [][]uint64{{1, 2}, {}, {4, 5}, {6}, {7}}) {
		t.Errorf("Serialize changed the list of segments: %d", list)
	}
}

func TestParsedSegmentsDoNotShareMemory(t *testing.T) {
	want := [][]uint64{{1, 2}, {3}, {}, {4, 5, 6}}
	b := framed(want)
	kept := slices.Clone(b)
	segs, _ := frame.Parse(b)
	for _, seg := range segs {
		clear(seg[:cap(seg)])
	}
	if !bytes.Equal(b, kept) {
		t.Error("a change of a segment is visible in the argument of Parse")
	}
	segs, _ = frame.Parse(b)
	clear(b)
	if !sameMessage(segs, want) {
		t.Error("a change of the argument of Parse is visible in its result")
	}
	for i, seg := range segs {
		clear(seg[:cap(seg)])
		if !sameMessage(segs[i+1:], want[i+1:]) {
			t.Errorf("a change of segment %d is visible in a later one", i)
		}
	}
}

func TestSerializedBytesDoNotShareMemory(t *testing.T) {
	segs := [][]uint64{{1, 2}, {3}}
	b, _ := frame.Serialize(segs)
	clear(b[:cap(b)])
	if !sameMessage(segs, [][]uint64{{1, 2}, {3}}) {
		t.Error("a change of the result of Serialize is visible in its argument")
	}
	b, _ = frame.Serialize(segs)
	want := slices.Clone(b)
	again, _ := frame.Serialize(segs)
	clear(again)
	clear(segs[0])
	clear(segs)
	if !bytes.Equal(b, want) {
		t.Error("the result of Serialize changed with its argument or with a later result")
	}
}
