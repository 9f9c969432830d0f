package scalar_test

import (
	"bytes"
	"encoding/binary"
	"math"
	"math/rand"
	"slices"
	"testing"

	"capnp/scalar"
)

var widths = []int{1, 8, 16, 32, 64}

// interestingValues have bits at the ends of every width, and above those of the narrow fields.
var interestingValues = []uint64{
	0, 1, 2, 0x7f, 0x80, 0xff, 0x100, 0x7fff, 0x8000, 0xffff, 0x10000, 0x80000000, 0xffffffff, 0x100000000,
	0x5555555555555555, 0xaaaaaaaaaaaaaaaa, 0x0123456789abcdef, 0x8000000000000000, 0x7fffffffffffffff, math.MaxUint64,
}

// interestingFloats are the bit patterns of zeros, subnormal and normal numbers, infinities, and quiet and signaling NaNs.
var interestingFloats = []uint64{
	0x0000000000000000, 0x8000000000000000, 0x0000000000000001, 0x800fffffffffffff, 0x0010000000000000,
	0x3ff0000000000000, 0xbff8000000000000, 0x400921fb54442d18, 0x7fefffffffffffff, 0x7ff0000000000000,
	0xfff0000000000000, 0x7ff8000000000000, 0x7ff8000000000001, 0xfff8000000000000, 0x7ff8123456789abc,
	0x7ff0000000000001, 0xfff0000000000001, 0x7ff4000000000000, 0x7ff7ffffffffffff, 0xffffffffffffffff,
}

// bitOf returns bit k of a section, and whether it exists.
func bitOf(data []byte, k int) (uint64, bool) {
	if k < 0 || k >= 8*len(data) {
		return 0, false
	}
	return uint64(data[k/8] >> (k % 8) & 1), true
}

// stored is the definition of a field, read one bit at a time: its bits and whether it is present.
// It is used for indices with which n*i does not overflow.
func stored(data []byte, n, i int) (uint64, bool) {
	var v uint64
	for k := range n {
		bit, ok := bitOf(data, n*i+k)
		if i < 0 || !ok {
			return 0, false
		}
		v |= bit << k
	}
	return v, true
}

// low returns the low n bits of v.
func low(v uint64, n int) uint64 {
	if n == 64 {
		return v
	}
	return v % (1 << n)
}

// randomBytes returns n bytes that are the same in every run.
func randomBytes(n int) []byte {
	b := make([]byte, n)
	rand.New(rand.NewSource(int64(n) + 3)).Read(b)
	return b
}

// sections calls f for sections of every small length: zeros, ones and others.
func sections(f func(data []byte)) {
	for n := range 20 {
		f(make([]byte, n))
		f(bytes.Repeat([]byte{0xff}, n))
		f(randomBytes(n))
	}
}

// eachField calls f for the fields of each width at, before and behind those of the section.
func eachField(data []byte, f func(n, i int)) {
	for _, n := range widths {
		for i := -3; i <= 8*len(data)/n+2; i++ {
			f(n, i)
		}
	}
}

// hugeIndices make n*i or n*i+n overflow for some widths, to values that look like bits of a section.
var hugeIndices = []int{
	math.MinInt, math.MinInt + 1, math.MinInt / 8, math.MinInt / 64, -1 << 60, -1 << 58, -1<<58 + 1, -1 << 32,
	1 << 28, 1 << 31, 1 << 32, 1<<57 + 1, 1<<58 - 1, 1 << 58, 1<<58 + 1, 1<<59 + 1, 1 << 60, 1<<60 + 1, 1 << 61,
	1<<61 + 1, 1 << 62, 1<<62 + 1, math.MaxInt / 64, math.MaxInt / 8, math.MaxInt - 1, math.MaxInt,
}

// checkAbsent checks that a field reads as its default and cannot be set.
func checkAbsent(t *testing.T, data []byte, n, i int) {
	t.Helper()
	for _, def := range interestingValues {
		if v := scalar.Uint(data, n, i, def); v != low(def, n) {
			t.Errorf("Uint(%x, %d, %d, %#x) = %#x", data, n, i, def, v)
		}
		if got, ok := scalar.SetUint(data, n, i, def, ^def); ok || !bytes.Equal(got, data) {
			t.Errorf("SetUint(%x, %d, %d, %#x) = %x, %v", data, n, i, def, got, ok)
		}
	}
}

// P3.1: ordinary inputs.

func TestKnownFields(t *testing.T) {
	data := []byte{0x01, 0x82, 0x03, 0x04, 0x05, 0x06, 0x07, 0x88, 0xf9}
	for _, x := range []struct {
		n, i int
		def  uint64
		want uint64
	}{
		{1, 0, 0, 1},
		{1, 0, 1, 0},
		{1, 1, 0, 0},
		{1, 1, 1, 1},
		{1, 9, 0, 1},
		{1, 15, 0, 1},
		{1, 15, 2, 1},
		{1, 15, 3, 0},
		{1, 71, 0, 1},
		{8, 0, 0, 0x01},
		{8, 1, 0, 0x82},
		{8, 1, 0x80, 0x02},
		{8, 8, 0xfff, 0x06},
		{16, 0, 0, 0x8201},
		{16, 3, 0, 0x8807},
		{16, 3, 0xffff, 0x77f8},
		{32, 0, 0, 0x04038201},
		{32, 1, 0, 0x88070605},
		{32, 1, 0x88000000, 0x00070605},
		{64, 0, 0, 0x8807060504038201},
		{64, 0, math.MaxUint64, 0x77f8f9fafbfc7dfe},
	} {
		if v := scalar.Uint(data, x.n, x.i, x.def); v != x.want {
			t.Errorf("Uint of %d bits at %d with %#x = %#x, want %#x", x.n, x.i, x.def, v, x.want)
		}
	}
}

func TestSetKnownFields(t *testing.T) {
	for _, x := range []struct {
		data   []byte
		n, i   int
		def, v uint64
		want   []byte
	}{
		{[]byte{0, 0}, 1, 0, 0, 1, []byte{1, 0}},
		{[]byte{0, 0}, 1, 9, 0, 1, []byte{0, 2}},
		{[]byte{0, 0}, 1, 9, 0, 2, []byte{0, 0}},
		{[]byte{0, 0}, 1, 9, 0, 3, []byte{0, 2}},
		{[]byte{0xff, 0xff}, 1, 15, 0, 0, []byte{0xff, 0x7f}},
		{[]byte{0xff, 0xff}, 1, 15, 1, 1, []byte{0xff, 0x7f}},
		{[]byte{0xff, 0xff}, 1, 15, 1, 0, []byte{0xff, 0xff}},
		{[]byte{1, 2, 3}, 8, 1, 0, 0x1aa, []byte{1, 0xaa, 3}},
		{[]byte{1, 2, 3}, 8, 2, 0xf0, 0xff, []byte{1, 2, 0x0f}},
		{[]byte{1, 2, 3, 4, 5}, 16, 1, 0, 0xabcd, []byte{1, 2, 0xcd, 0xab, 5}},
		{[]byte{1, 2, 3, 4, 5}, 16, 1, 0x7abcd, 0xabcd, []byte{1, 2, 0, 0, 5}},
		{[]byte{1, 2, 3, 4, 5, 6, 7, 8, 9}, 32, 1, 0, 0xfedcba98, []byte{1, 2, 3, 4, 0x98, 0xba, 0xdc, 0xfe, 9}},
		{[]byte{1, 2, 3, 4, 5, 6, 7, 8, 9}, 64, 0, 1, 0x8877665544332211, []byte{0x10, 0x22, 0x33, 0x44, 0x55, 0x66, 0x77, 0x88, 9}},
	} {
		if got, ok := scalar.SetUint(x.data, x.n, x.i, x.def, x.v); !ok || !bytes.Equal(got, x.want) {
			t.Errorf("SetUint(%x, %d, %d, %#x, %#x) = %x, %v, want %x", x.data, x.n, x.i, x.def, x.v, got, ok, x.want)
		}
	}
}

func TestEveryFieldIsReadBitByBit(t *testing.T) {
	sections(func(data []byte) {
		eachField(data, func(n, i int) {
			bits, _ := stored(data, n, i)
			for _, def := range interestingValues {
				want := bits ^ low(def, n)
				if v := scalar.Uint(data, n, i, def); v != want {
					t.Fatalf("Uint(%x, %d, %d, %#x) = %#x, want %#x", data, n, i, def, v, want)
				}
			}
		})
	})
}

func TestEveryFieldIsSetBitByBit(t *testing.T) {
	sections(func(data []byte) {
		eachField(data, func(n, i int) {
			_, exists := stored(data, n, i)
			for k, v := range interestingValues {
				def := interestingValues[(7*k+n+len(data))%len(interestingValues)]
				want := slices.Clone(data)
				for k := 0; exists && k < n; k++ {
					at := n*i + k
					bit := byte((v ^ def) >> k & 1)
					want[at/8] = want[at/8]&^(1<<(at%8)) | bit<<(at%8)
				}
				got, ok := scalar.SetUint(data, n, i, def, v)
				if ok != exists || !bytes.Equal(got, want) {
					t.Fatalf("SetUint(%x, %d, %d, %#x, %#x) = %x, %v, want %x, %v", data, n, i, def, v, got, ok, want, exists)
				}
			}
		})
	})
}

func TestWholeFieldsAgreeWithTheLibrary(t *testing.T) {
	data := randomBytes(40)
	for i := range 5 {
		if v, want := scalar.Uint(data, 64, i, 0), binary.LittleEndian.Uint64(data[8*i:]); v != want {
			t.Errorf("64 bits at %d: %#x, want %#x", i, v, want)
		}
	}
	for i := range 10 {
		if v, want := scalar.Uint(data, 32, i, 0), binary.LittleEndian.Uint32(data[4*i:]); v != uint64(want) {
			t.Errorf("32 bits at %d: %#x, want %#x", i, v, want)
		}
	}
	for i := range 20 {
		if v, want := scalar.Uint(data, 16, i, 0), binary.LittleEndian.Uint16(data[2*i:]); v != uint64(want) {
			t.Errorf("16 bits at %d: %#x, want %#x", i, v, want)
		}
	}
	for i, want := range data {
		if v := scalar.Uint(data, 8, i, 0); v != uint64(want) {
			t.Errorf("8 bits at %d: %#x, want %#x", i, v, want)
		}
	}
}

// P3.1: edge cases and invalid inputs.

func TestFieldsThatAreAbsent(t *testing.T) {
	for _, x := range []struct {
		length, n, i int
	}{
		{0, 1, 0}, {0, 8, 0}, {0, 64, 0},
		{1, 1, 8}, {1, 1, -1}, {1, 8, 1}, {1, 16, 0}, {1, 32, 0}, {1, 64, 0},
		{3, 1, 24}, {3, 8, 3}, {3, 16, 1}, {3, 32, 0}, {3, 64, 0},
		{7, 32, 1}, {7, 64, 0}, {8, 64, 1}, {15, 64, 1}, {16, 64, -1}, {16, 64, 2},
	} {
		checkAbsent(t, bytes.Repeat([]byte{0xff}, x.length), x.n, x.i)
	}
}

func TestTheLastFieldOfEachWidth(t *testing.T) {
	for _, n := range widths {
		data := bytes.Repeat([]byte{0xff}, 16)
		last := 128/n - 1
		if v := scalar.Uint(data, n, last, 0); v != low(math.MaxUint64, n) {
			t.Errorf("Uint of %d bits at %d = %#x", n, last, v)
		}
		if got, ok := scalar.SetUint(data, n, last, 0, 0); !ok || scalar.Uint(got, n, last, 0) != 0 {
			t.Errorf("SetUint of %d bits at %d = %x, %v", n, last, got, ok)
		}
		checkAbsent(t, data, n, last+1)
	}
}

func TestFieldsAtHugeIndices(t *testing.T) {
	data := bytes.Repeat([]byte{0xff}, 24)
	for _, n := range widths {
		for _, i := range hugeIndices {
			checkAbsent(t, data, n, i)
		}
	}
}

func TestNilAndEmptySections(t *testing.T) {
	for _, data := range [][]byte{nil, {}} {
		for _, n := range widths {
			checkAbsent(t, data, n, 0)
			checkAbsent(t, data, n, -1)
		}
		if got, ok := scalar.SetFloat(data, 0, 1, 2); len(got) != 0 || ok {
			t.Errorf("SetFloat = %x, %v", got, ok)
		}
	}
}

func TestUnusedCapacityIsNoPartOfTheSection(t *testing.T) {
	whole := bytes.Repeat([]byte{0xff}, 16)
	for _, n := range widths {
		checkAbsent(t, whole[:8], n, 64/n)
	}
	checkAbsent(t, whole[:7], 64, 0)
}

// The promises leave other widths open; P1 and the rules of the language still forbid a panic.
func TestOtherWidthsDoNotPanic(t *testing.T) {
	numbers := append([]int{-64, -8, -1, 0, 1, 2, 3, 7}, hugeIndices...)
	for n := range 200 {
		numbers = append(numbers, n)
	}
	for _, length := range []int{0, 1, 8, 33} {
		data := randomBytes(length)
		for _, n := range numbers {
			for _, i := range numbers {
				scalar.Uint(data, n, i, math.MaxUint64)
				scalar.SetUint(data, n, i, math.MaxUint64, 1)
			}
		}
	}
}

// P3.2

func TestKnownFloats(t *testing.T) {
	data := make([]byte, 16)
	binary.LittleEndian.PutUint64(data[8:], math.Float64bits(-2.5))
	for _, x := range []struct {
		i         int
		def, want float64
	}{
		{0, 0, 0},
		{0, 1.5, 1.5},
		{0, math.Inf(-1), math.Inf(-1)},
		{1, 0, -2.5},
		{1, math.Copysign(0, -1), 2.5},
		{1, -2.5, 0},
		{2, 3.25, 3.25},
		{-1, 3.25, 3.25},
	} {
		if v := scalar.Float(data, x.i, x.def); !scalar.SameBits(v, x.want) {
			t.Errorf("Float at %d with %v = %v, want %v", x.i, x.def, v, x.want)
		}
	}
}

func TestSetKnownFloats(t *testing.T) {
	data := randomBytes(20)
	for i := range 2 {
		want := slices.Clone(data)
		binary.LittleEndian.PutUint64(want[8*i:], math.Float64bits(1.5))
		if got, ok := scalar.SetFloat(data, i, 0, 1.5); !ok || !bytes.Equal(got, want) {
			t.Errorf("SetFloat at %d = %x, %v, want %x", i, got, ok, want)
		}
		clear(want[8*i : 8*i+8])
		if got, ok := scalar.SetFloat(data, i, 1.5, 1.5); !ok || !bytes.Equal(got, want) {
			t.Errorf("SetFloat of the default at %d = %x, %v, want %x", i, got, ok, want)
		}
	}
}

func TestEveryFloatIsA64BitField(t *testing.T) {
	for _, bits := range interestingFloats {
		for _, defBits := range interestingFloats {
			def := math.Float64frombits(defBits)
			data := binary.LittleEndian.AppendUint64(randomBytes(8), bits)
			if v := math.Float64bits(scalar.Float(data, 1, def)); v != bits^defBits {
				t.Errorf("Float of %#x with %#x = %#x", bits, defBits, v)
			}
			want := binary.LittleEndian.AppendUint64(randomBytes(8), bits^defBits)
			got, ok := scalar.SetFloat(data, 1, def, math.Float64frombits(bits))
			if !ok || !bytes.Equal(got, want) {
				t.Errorf("SetFloat of %#x with %#x = %x, %v, want %x", bits, defBits, got, ok, want)
			}
		}
	}
}

func TestFloatsThatAreAbsent(t *testing.T) {
	data := bytes.Repeat([]byte{0xff}, 23)
	for _, i := range append([]int{-2, -1, 2, 3, 4}, hugeIndices...) {
		for _, bits := range interestingFloats {
			def := math.Float64frombits(bits)
			if v := math.Float64bits(scalar.Float(data, i, def)); v != bits {
				t.Errorf("Float at %d with %#x = %#x", i, bits, v)
			}
			if got, ok := scalar.SetFloat(data, i, def, 1); ok || !bytes.Equal(got, data) {
				t.Errorf("SetFloat at %d = %x, %v", i, got, ok)
			}
		}
	}
}

func TestSameBitsComparesBitPatterns(t *testing.T) {
	for _, a := range interestingFloats {
		for _, b := range interestingFloats {
			if got := scalar.SameBits(math.Float64frombits(a), math.Float64frombits(b)); got != (a == b) {
				t.Errorf("SameBits of %#x and %#x = %v", a, b, got)
			}
		}
		for bit := range 64 {
			if scalar.SameBits(math.Float64frombits(a), math.Float64frombits(a^1<<bit)) {
				t.Errorf("SameBits ignores bit %d of %#x", bit, a)
			}
		}
	}
}

// P3.3

func TestAStoredValueIsReadBack(t *testing.T) {
	sections(func(data []byte) {
		eachField(data, func(n, i int) {
			for k, v := range interestingValues {
				def := interestingValues[(3*k+i+5)%len(interestingValues)]
				got, ok := scalar.SetUint(data, n, i, def, v)
				if back := scalar.Uint(got, n, i, def); ok && back != low(v, n) {
					t.Fatalf("%#x with %#x in %d bits at %d of %x reads as %#x", v, def, n, i, data, back)
				}
			}
		})
	})
}

func TestAStoredFloatIsReadBack(t *testing.T) {
	data := randomBytes(24)
	for _, bits := range interestingFloats {
		for _, defBits := range interestingFloats {
			def := math.Float64frombits(defBits)
			got, ok := scalar.SetFloat(data, 1, def, math.Float64frombits(bits))
			if back := math.Float64bits(scalar.Float(got, 1, def)); !ok || back != bits {
				t.Errorf("%#x with %#x reads as %#x, %v", bits, defBits, back, ok)
			}
		}
	}
}

func TestOtherFieldsAreUnchanged(t *testing.T) {
	for _, n := range widths {
		data := randomBytes(21)
		for i := range 168 / n {
			got, ok := scalar.SetUint(data, n, i, 0, ^scalar.Uint(data, n, i, 0))
			if !ok || len(got) != len(data) {
				t.Fatalf("SetUint of %d bits at %d = %x, %v", n, i, got, ok)
			}
			for other := range 168 / n {
				same := scalar.Uint(got, n, other, 0) == scalar.Uint(data, n, other, 0)
				if same != (other != i) {
					t.Errorf("%d bits at %d were set: those at %d are the same: %v", n, i, other, same)
				}
			}
			for k := 168 / n * n; k < 168; k++ {
				if scalar.Uint(got, 1, k, 0) != scalar.Uint(data, 1, k, 0) {
					t.Errorf("%d bits at %d were set: bit %d behind the fields has changed", n, i, k)
				}
			}
		}
	}
}

func TestAZeroSectionReadsAsTheDefault(t *testing.T) {
	for length := range 20 {
		data := make([]byte, length)
		eachField(data, func(n, i int) {
			for _, def := range interestingValues {
				if v := scalar.Uint(data, n, i, def); v != low(def, n) {
					t.Fatalf("%d bits at %d of %d zero bytes with %#x = %#x", n, i, length, def, v)
				}
			}
		})
		for i := -1; i <= 3; i++ {
			for _, bits := range interestingFloats {
				if v := scalar.Float(data, i, math.Float64frombits(bits)); math.Float64bits(v) != bits {
					t.Errorf("Float at %d of %d zero bytes with %#x = %#x", i, length, bits, math.Float64bits(v))
				}
			}
		}
	}
}

func TestExampleOfTheChapter(t *testing.T) {
	negative := math.Copysign(0, -1)
	v := scalar.Float(make([]byte, 8), 0, negative)
	if v != 0 || !math.Signbit(v) || !scalar.SameBits(v, negative) || scalar.SameBits(v, 0) {
		t.Errorf("Float = %v with the bits %#x", v, math.Float64bits(v))
	}
}

// P3.4 and the rules about memory.

func TestArgumentsAreNotModified(t *testing.T) {
	for length := range 20 {
		whole := randomBytes(40)
		kept := slices.Clone(whole)
		data := whole[:length]
		eachField(data, func(n, i int) {
			scalar.Uint(data, n, i, math.MaxUint64)
			scalar.SetUint(data, n, i, 0, ^scalar.Uint(data, n, i, 0))
		})
		for i := -1; i <= 3; i++ {
			scalar.Float(data, i, 1.5)
			scalar.SetFloat(data, i, 1.5, -3)
		}
		if !bytes.Equal(whole, kept) {
			t.Errorf("%d bytes: the section or its unused capacity changed: %x, was %x", length, whole, kept)
		}
	}
}

func TestResultsDoNotShareMemory(t *testing.T) {
	data := randomBytes(24)
	kept := slices.Clone(data)
	for _, n := range widths {
		for _, i := range []int{-1, 0, 1, 192 / n} {
			got, _ := scalar.SetUint(data, n, i, 0, 0)
			clear(got[:cap(got)])
			if !bytes.Equal(data, kept) {
				t.Fatalf("%d bits at %d: a change of the result is visible in the argument", n, i)
			}
		}
	}
	for _, i := range []int{-1, 0, 2, 3} {
		got, _ := scalar.SetFloat(data, i, 0, 1)
		clear(got[:cap(got)])
		if !bytes.Equal(data, kept) {
			t.Fatalf("float at %d: a change of the result is visible in the argument", i)
		}
	}
	got, _ := scalar.SetUint(data, 8, 0, 0, 7)
	want := slices.Clone(got)
	clear(data)
	if !bytes.Equal(got, want) {
		t.Error("a change of the argument is visible in the result")
	}
}
