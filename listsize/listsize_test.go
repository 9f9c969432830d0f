package listsize_test

import (
	"bytes"
	"math"
	"math/big"
	"slices"
	"testing"

	"capnp/api"
	"capnp/listsize"
)

// codes are all element size codes; byteCodes are those of the lists whose elements consist of bits or bytes.
var codes = []int{
	api.ElemVoid, api.ElemBit, api.ElemByte, api.ElemTwo, api.ElemFour, api.ElemEight, api.ElemPointer, api.ElemComposite,
}

var byteCodes = codes[:6]

// width is the element size of the chapter.
func width(elem int) int64 {
	switch elem {
	case api.ElemBit:
		return 1
	case api.ElemByte:
		return 8
	case api.ElemTwo:
		return 16
	case api.ElemFour:
		return 32
	case api.ElemEight, api.ElemPointer:
		return 64
	}
	return 0
}

// counts are all small counts, and those at powers of two up to the limit.
func counts() []int {
	var list []int
	for n := range 300 {
		list = append(list, n)
	}
	for shift := 9; shift <= 29; shift++ {
		for d := -9; d <= 9; d++ {
			if n := 1<<shift + d; n <= api.MaxCount {
				list = append(list, n)
			}
		}
	}
	return list
}

// isSmallest reports whether n units of the given size are the fewest that hold count elements.
func isSmallest(n int, unit int64, elem, count int) bool {
	need := new(big.Int).Mul(big.NewInt(width(elem)), big.NewInt(int64(count)))
	holds := func(n int) bool {
		return new(big.Int).Mul(big.NewInt(int64(n)), big.NewInt(unit)).Cmp(need) >= 0
	}
	return n >= 0 && holds(n) && (n == 0 || !holds(n-1))
}

// patterned returns n bytes that differ from their neighbours and have bits of both values.
func patterned(n int) []byte {
	b := make([]byte, n)
	for i := range b {
		b[i] = byte(i*37 + 165)
	}
	return b
}

// bit returns a bit of a list of bits.
func bit(b []byte, i int) byte {
	return b[i/8] >> (i % 8) & 1
}

// P6.1: ordinary inputs.

func TestExampleOfTheChapter(t *testing.T) {
	if got := listsize.Bytes(api.ElemBit, 9); got != 2 {
		t.Errorf("9 bits occupy %d bytes", got)
	}
	if got := listsize.Words(api.ElemBit, 9); got != 1 {
		t.Errorf("9 bits occupy %d words", got)
	}
}

func TestElementSizes(t *testing.T) {
	for elem, want := range []int{0, 1, 8, 16, 32, 64, 64, 0} {
		if got := listsize.Bits(elem); got != want {
			t.Errorf("Bits(%d) = %d, want %d", elem, got, want)
		}
	}
}

func TestKnownWords(t *testing.T) {
	for _, x := range []struct{ elem, count, want int }{
		{api.ElemVoid, 0, 0}, {api.ElemVoid, 1, 0}, {api.ElemVoid, 1000, 0}, {api.ElemVoid, api.MaxCount, 0},
		{api.ElemBit, 0, 0}, {api.ElemBit, 1, 1}, {api.ElemBit, 64, 1}, {api.ElemBit, 65, 2}, {api.ElemBit, api.MaxCount, 1 << 23},
		{api.ElemByte, 0, 0}, {api.ElemByte, 1, 1}, {api.ElemByte, 8, 1}, {api.ElemByte, 9, 2}, {api.ElemByte, api.MaxCount, 1 << 26},
		{api.ElemTwo, 0, 0}, {api.ElemTwo, 1, 1}, {api.ElemTwo, 4, 1}, {api.ElemTwo, 5, 2}, {api.ElemTwo, api.MaxCount, 1 << 27},
		{api.ElemFour, 0, 0}, {api.ElemFour, 1, 1}, {api.ElemFour, 2, 1}, {api.ElemFour, 3, 2}, {api.ElemFour, api.MaxCount, 1 << 28},
		{api.ElemEight, 0, 0}, {api.ElemEight, 1, 1}, {api.ElemEight, 7, 7}, {api.ElemEight, api.MaxCount, 1<<29 - 1},
		{api.ElemPointer, 0, 0}, {api.ElemPointer, 1, 1}, {api.ElemPointer, 7, 7}, {api.ElemPointer, api.MaxCount, 1<<29 - 1},
		{api.ElemComposite, 0, 1}, {api.ElemComposite, 1, 2}, {api.ElemComposite, 7, 8}, {api.ElemComposite, api.MaxCount, 1 << 29},
	} {
		if got := listsize.Words(x.elem, x.count); got != x.want {
			t.Errorf("Words(%d, %d) = %d, want %d", x.elem, x.count, got, x.want)
		}
	}
}

func TestKnownBytes(t *testing.T) {
	for _, x := range []struct{ elem, count, want int }{
		{api.ElemVoid, 0, 0}, {api.ElemVoid, 9, 0}, {api.ElemVoid, api.MaxCount, 0},
		{api.ElemBit, 0, 0}, {api.ElemBit, 1, 1}, {api.ElemBit, 7, 1}, {api.ElemBit, 8, 1}, {api.ElemBit, 9, 2}, {api.ElemBit, api.MaxCount, 1 << 26},
		{api.ElemByte, 0, 0}, {api.ElemByte, 1, 1}, {api.ElemByte, 9, 9}, {api.ElemByte, api.MaxCount, 1<<29 - 1},
		{api.ElemTwo, 0, 0}, {api.ElemTwo, 1, 2}, {api.ElemTwo, 5, 10}, {api.ElemTwo, api.MaxCount, 1<<30 - 2},
		{api.ElemFour, 0, 0}, {api.ElemFour, 1, 4}, {api.ElemFour, 3, 12}, {api.ElemFour, api.MaxCount, 1<<31 - 4},
		{api.ElemEight, 0, 0}, {api.ElemEight, 1, 8}, {api.ElemEight, 3, 24}, {api.ElemEight, api.MaxCount, 1<<32 - 8},
	} {
		if got := listsize.Bytes(x.elem, x.count); got != x.want {
			t.Errorf("Bytes(%d, %d) = %d, want %d", x.elem, x.count, got, x.want)
		}
	}
}

// P6.1: every small count, and edge cases up to the limit.

func TestWordsAreTheFewestThatHoldTheElements(t *testing.T) {
	for _, elem := range codes[:7] {
		for _, count := range counts() {
			if got := listsize.Words(elem, count); !isSmallest(got, 64, elem, count) {
				t.Errorf("Words(%d, %d) = %d", elem, count, got)
			}
		}
	}
}

func TestBytesAreTheFewestThatHoldTheElements(t *testing.T) {
	for _, elem := range byteCodes {
		for _, count := range counts() {
			if got := listsize.Bytes(elem, count); !isSmallest(got, 8, elem, count) {
				t.Errorf("Bytes(%d, %d) = %d", elem, count, got)
			}
		}
	}
}

func TestACompositeListHasATagWord(t *testing.T) {
	for _, count := range counts() {
		if got := listsize.Words(api.ElemComposite, count); got != count+1 {
			t.Errorf("Words(%d, %d) = %d", api.ElemComposite, count, got)
		}
	}
}

func TestWordsHoldTheBytes(t *testing.T) {
	for _, elem := range byteCodes {
		for _, count := range counts() {
			want := (listsize.Bytes(elem, count) + api.WordBytes - 1) / api.WordBytes
			if got := listsize.Words(elem, count); got != want {
				t.Errorf("Words(%d, %d) = %d, want %d", elem, count, got, want)
			}
		}
	}
}

// P6.2: ordinary inputs.

func TestKnownTrims(t *testing.T) {
	ones := []byte{0xff, 0xff, 0xff, 0xff}
	for _, x := range []struct {
		elem, count int
		b, want     []byte
	}{
		{api.ElemVoid, 0, nil, nil},
		{api.ElemVoid, 3, ones, nil},
		{api.ElemVoid, api.MaxCount, nil, nil},
		{api.ElemBit, 0, nil, nil},
		{api.ElemBit, 0, ones, nil},
		{api.ElemBit, 1, ones, []byte{1}},
		{api.ElemBit, 2, ones, []byte{3}},
		{api.ElemBit, 7, ones, []byte{0x7f}},
		{api.ElemBit, 8, ones, []byte{0xff}},
		{api.ElemBit, 9, ones, []byte{0xff, 1}},
		{api.ElemBit, 15, ones, []byte{0xff, 0x7f}},
		{api.ElemBit, 16, ones, []byte{0xff, 0xff}},
		{api.ElemBit, 20, []byte{0x5a, 0xa5, 0xa6}, []byte{0x5a, 0xa5, 6}},
		{api.ElemByte, 0, ones, nil},
		{api.ElemByte, 3, []byte{1, 2, 0xfe, 4}, []byte{1, 2, 0xfe}},
		{api.ElemTwo, 1, []byte{1, 0xfe, 3}, []byte{1, 0xfe}},
		{api.ElemFour, 1, []byte{1, 2, 3, 0xfe, 5}, []byte{1, 2, 3, 0xfe}},
		{api.ElemEight, 1, []byte{1, 2, 3, 4, 5, 6, 7, 0xfe, 9}, []byte{1, 2, 3, 4, 5, 6, 7, 0xfe}},
		{api.ElemEight, 1, make([]byte, 8), make([]byte, 8)},
	} {
		if got := listsize.Trim(x.elem, x.count, x.b); !bytes.Equal(got, x.want) {
			t.Errorf("Trim(%d, %d, % x) = % x, want % x", x.elem, x.count, x.b, got, x.want)
		}
	}
}

// P6.2: every small count, with a list that ends with the elements and with bytes behind them.

func TestTrimKeepsTheElementsOnly(t *testing.T) {
	for _, elem := range byteCodes {
		for count := range 140 {
			size := (count*int(width(elem)) + 7) / 8
			for _, spare := range []int{0, 1, 2, 9} {
				checkTrim(t, elem, count, patterned(size+spare))
				checkTrim(t, elem, count, bytes.Repeat([]byte{0xff}, size+spare))
				checkTrim(t, elem, count, make([]byte, size+spare))
			}
		}
	}
}

// checkTrim compares a trimmed list with b bit by bit.
func checkTrim(t *testing.T, elem, count int, b []byte) {
	t.Helper()
	got := listsize.Trim(elem, count, b)
	used := count * int(width(elem))
	if len(got) != (used+7)/8 {
		t.Errorf("Trim(%d, %d, % x) has %d bytes", elem, count, b, len(got))
		return
	}
	for i := range 8 * len(got) {
		want := byte(0)
		if i < used {
			want = bit(b, i)
		}
		if bit(got, i) != want {
			t.Errorf("Trim(%d, %d, % x) = % x: bit %d", elem, count, b, got, i)
			return
		}
	}
}

func TestTrimAgainChangesNothing(t *testing.T) {
	for _, elem := range byteCodes {
		for count := range 70 {
			once := listsize.Trim(elem, count, patterned(8*count+1))
			if twice := listsize.Trim(elem, count, once); !bytes.Equal(once, twice) {
				t.Errorf("Trim(%d, %d, % x) = % x", elem, count, once, twice)
			}
		}
	}
}

func TestTrimOfTheLongestListOfBits(t *testing.T) {
	b := bytes.Repeat([]byte{0xff}, 1<<26+1)
	got := listsize.Trim(api.ElemBit, api.MaxCount, b)
	if len(got) != 1<<26 {
		t.Fatalf("%d bytes", len(got))
	}
	last := len(got) - 1
	if !bytes.Equal(got[:last], b[:last]) || got[last] != 0x7f {
		t.Errorf("the list ends with % x", got[last-3:])
	}
}

// P6.3

func TestAtMostAWordPerElementPlusOne(t *testing.T) {
	for _, elem := range codes {
		for _, count := range counts() {
			if got := listsize.Words(elem, count); got < 0 || got > count+1 {
				t.Errorf("Words(%d, %d) = %d", elem, count, got)
			}
		}
	}
}

// P6.4

func TestArgumentsAreNotModified(t *testing.T) {
	for _, elem := range byteCodes {
		for count := range 20 {
			whole := patterned(200)
			listsize.Trim(elem, count, whole)
			listsize.Trim(elem, count, whole[:listsize.Bytes(elem, count)])
			if !bytes.Equal(whole, patterned(200)) {
				t.Errorf("Trim of %d elements of code %d changed its argument or unused capacity", count, elem)
			}
		}
	}
}

func TestTrimsDoNotShareMemory(t *testing.T) {
	for _, elem := range byteCodes {
		for count := range 20 {
			b := patterned(8*count + 1)
			got := listsize.Trim(elem, count, b)
			want := slices.Clone(got)
			again := listsize.Trim(elem, count, b)
			clear(again[:cap(again)])
			if !bytes.Equal(b, patterned(8*count+1)) {
				t.Errorf("a change of the result of Trim of %d elements of code %d is visible in its argument", count, elem)
			}
			clear(b)
			if !bytes.Equal(got, want) {
				t.Errorf("Trim of %d elements of code %d shares memory: % x, want % x", count, elem, got, want)
			}
		}
	}
}

// A part of the argument as a result would let its capacity be written through an append.
func TestAppendingToATrimDoesNotChangeTheArgument(t *testing.T) {
	for _, elem := range byteCodes {
		for count := range 9 {
			b := patterned(8*count + 4)
			_ = append(listsize.Trim(elem, count, b), 1, 2)
			if !bytes.Equal(b, patterned(8*count+4)) {
				t.Errorf("an append to Trim of %d elements of code %d changed its argument", count, elem)
			}
		}
	}
}

// P1: the promises leave the results for these arguments open, but there are no panics.

func TestNoPanicForOtherArguments(t *testing.T) {
	numbers := []int{
		math.MinInt, math.MinInt + 1, -1 << 61, -1 << 58, -1 << 32, -65, -64, -9, -8, -7, -2, -1, 0, 1, 7, 8, 9, 63, 64, 65,
		api.MaxCount, 1 << 29, 1<<58 + 1, 1 << 60, 1<<61 - 1, 1 << 62, math.MaxInt - 63, math.MaxInt - 7, math.MaxInt - 6, math.MaxInt,
	}
	for _, elem := range append(slices.Clone(numbers), 2, 3, 4, 5, 6) {
		listsize.Bits(elem)
		for _, count := range numbers {
			listsize.Words(elem, count)
			listsize.Bytes(elem, count)
			for size := range 10 {
				listsize.Trim(elem, count, patterned(size))
			}
		}
	}
}
