package arena_test

import (
	"math"
	"math/big"
	"slices"
	"testing"

	"capnp/arena"
)

// messages are lists of segments, with nil and empty ones and with segments that occur more than once.
func messages() map[string][][]uint64 {
	shared := []uint64{21, 22, 23}
	return map[string][][]uint64{
		"no list":              nil,
		"no segment":           {},
		"a nil segment":        {nil},
		"an empty segment":     {{}},
		"one word":             {{math.MaxUint64}},
		"two words":            {{0, 5}},
		"three segments":       {{1, 2, 3, 4, 5}, {}, {6, 7}},
		"empty at the ends":    {nil, {8}, {9, 10, 11}, nil},
		"a repeated segment":   {shared, shared, shared[1:], shared[:1]},
		"seven equal segments": slices.Repeat([][]uint64{{31, 32, 33, 34}}, 7),
	}
}

// edges are numbers at which a sum or a difference of them overflows, or that look small if bits are cut off.
var edges = []int{
	math.MinInt, math.MinInt + 1, math.MinInt + 2, math.MinInt + 7, -1 << 62, -1 << 33, -1<<32 - 1, -1 << 32, -1<<32 + 1, -1<<31 - 1, -1 << 31,
	-1 << 29, -3, -2, -1, 0, 1, 2, 3, 4, 5, 6, 7, 8, 1<<29 - 1, 1 << 29, 1<<31 - 1, 1 << 31, 1<<32 - 1, 1 << 32, 1<<32 + 1, 1<<32 + 2,
	1 << 33, 1 << 61, 1 << 62, 1<<62 + 1, math.MaxInt - 7, math.MaxInt - 2, math.MaxInt - 1, math.MaxInt,
}

// inBounds is the definition of the chapter, written with integers that do not overflow.
func inBounds(segs [][]uint64, seg, at, n int) bool {
	if seg < 0 || seg >= len(segs) || at < 0 || n < 0 {
		return false
	}
	end := new(big.Int).Add(big.NewInt(int64(at)), big.NewInt(int64(n)))
	return end.Cmp(big.NewInt(int64(len(segs[seg])))) <= 0
}

// checkRange checks the three functions that read a range.
func checkRange(t *testing.T, name string, segs [][]uint64, seg, at, n int) {
	t.Helper()
	want := inBounds(segs, seg, at, n)
	if got := arena.InBounds(segs, seg, at, n); got != want {
		t.Errorf("%s: InBounds(%d, %d, %d) = %v", name, seg, at, n, got)
	}
	words, ok := arena.Slice(segs, seg, at, n)
	if ok != want || !ok && words != nil || ok && !slices.Equal(words, segs[seg][at:at+n]) {
		t.Errorf("%s: Slice(%d, %d, %d) = %d, %v", name, seg, at, n, words, ok)
	}
	if n != 1 {
		return
	}
	w, ok := arena.Word(segs, seg, at)
	if ok != want || !ok && w != 0 || ok && w != segs[seg][at] {
		t.Errorf("%s: Word(%d, %d) = %d, %v", name, seg, at, w, ok)
	}
}

// P5.1: ordinary inputs.

func TestExampleOfTheChapter(t *testing.T) {
	segs := [][]uint64{{11, 12}}
	if !arena.InBounds(segs, 0, 2, 0) {
		t.Error("the range of 0 words at index 2 is not in bounds")
	}
	if arena.InBounds(segs, 0, 2, 1) {
		t.Error("the range of 1 word at index 2 is in bounds")
	}
	if words, ok := arena.Slice(segs, 0, 2, 0); len(words) != 0 || !ok {
		t.Errorf("Slice of 0 words at index 2 = %d, %v", words, ok)
	}
	if words, ok := arena.Slice(segs, 0, 2, 1); words != nil || ok {
		t.Errorf("Slice of 1 word at index 2 = %d, %v", words, ok)
	}
	if w, ok := arena.Word(segs, 0, 2); w != 0 || ok {
		t.Errorf("Word at index 2 = %d, %v", w, ok)
	}
}

func TestKnownWords(t *testing.T) {
	segs := [][]uint64{{1, 2, 3}, {}, {math.MaxUint64, 1 << 63}}
	for _, x := range []struct {
		seg, at int
		want    uint64
		ok      bool
	}{
		{0, 0, 1, true},
		{0, 1, 2, true},
		{0, 2, 3, true},
		{0, 3, 0, false},
		{0, -1, 0, false},
		{1, 0, 0, false},
		{1, -1, 0, false},
		{2, 0, math.MaxUint64, true},
		{2, 1, 1 << 63, true},
		{2, 2, 0, false},
		{3, 0, 0, false},
		{-1, 0, 0, false},
		{-1, -1, 0, false},
	} {
		if w, ok := arena.Word(segs, x.seg, x.at); w != x.want || ok != x.ok {
			t.Errorf("Word(%d, %d) = %#x, %v, want %#x, %v", x.seg, x.at, w, ok, x.want, x.ok)
		}
	}
}

func TestKnownRanges(t *testing.T) {
	segs := [][]uint64{{1, 2, 3}, {}, {4, 5}}
	for _, x := range []struct {
		seg, at, n int
		want       []uint64
		ok         bool
	}{
		{0, 0, 3, []uint64{1, 2, 3}, true},
		{0, 0, 2, []uint64{1, 2}, true},
		{0, 1, 2, []uint64{2, 3}, true},
		{0, 2, 1, []uint64{3}, true},
		{0, 0, 0, nil, true},
		{0, 3, 0, nil, true},
		{0, 0, 4, nil, false},
		{0, 1, 3, nil, false},
		{0, 3, 1, nil, false},
		{0, 4, 0, nil, false},
		{0, 4, -1, nil, false},
		{0, -1, 0, nil, false},
		{0, -1, 2, nil, false},
		{0, 2, -1, nil, false},
		{0, 3, -3, nil, false},
		{1, 0, 0, nil, true},
		{1, 0, 1, nil, false},
		{1, 1, 0, nil, false},
		{2, 0, 2, []uint64{4, 5}, true},
		{2, 0, 3, nil, false},
		{3, 0, 0, nil, false},
		{-1, 0, 0, nil, false},
		{-1, 0, 1, nil, false},
	} {
		if got := arena.InBounds(segs, x.seg, x.at, x.n); got != x.ok {
			t.Errorf("InBounds(%d, %d, %d) = %v", x.seg, x.at, x.n, got)
		}
		got, ok := arena.Slice(segs, x.seg, x.at, x.n)
		if ok != x.ok || !slices.Equal(got, x.want) {
			t.Errorf("Slice(%d, %d, %d) = %d, %v, want %d, %v", x.seg, x.at, x.n, got, ok, x.want, x.ok)
		}
	}
}

func TestEverySmallRange(t *testing.T) {
	for name, segs := range messages() {
		for seg := -2; seg <= len(segs)+1; seg++ {
			for at := -2; at <= 8; at++ {
				for n := -3; n <= 8; n++ {
					checkRange(t, name, segs, seg, at, n)
				}
			}
		}
	}
}

func TestEveryRangeOfALongSegment(t *testing.T) {
	long := make([]uint64, 60)
	for i := range long {
		long[i] = uint64(i) * 0x0101010101010101
	}
	segs := [][]uint64{{7}, long, {8}}
	for at := -1; at <= 62; at++ {
		for n := -1; n <= 62; n++ {
			checkRange(t, "a long segment", segs, 1, at, n)
		}
	}
}

// P5.1 and P5.3: edge cases and invalid inputs.

func TestNoSumOverflows(t *testing.T) {
	for name, segs := range messages() {
		for _, seg := range []int{0, 1, 2} {
			for _, at := range edges {
				for _, n := range edges {
					checkRange(t, name, segs, seg, at, n)
				}
			}
		}
	}
}

func TestHugeSegmentIndices(t *testing.T) {
	for name, segs := range messages() {
		for _, seg := range edges {
			for _, n := range []int{math.MinInt, -1, 0, 1, 2, math.MaxInt} {
				checkRange(t, name, segs, seg, 0, n)
				checkRange(t, name, segs, seg, 1, n)
			}
		}
	}
}

func TestUnusedCapacityIsOutOfBounds(t *testing.T) {
	whole := []uint64{1, 2, 3, 4}
	list := [][]uint64{whole[:2], whole[2:2], whole}
	for at := range 6 {
		for n := range 6 {
			checkRange(t, "unused capacity", list[:2], 0, at, n)
			checkRange(t, "unused capacity", list[:2], 1, at, n)
			checkRange(t, "unused capacity", list[:2], 2, at, n)
		}
	}
}

// P5.2

func TestSizes(t *testing.T) {
	for name, want := range map[string]int{
		"no list":              0,
		"no segment":           0,
		"a nil segment":        0,
		"an empty segment":     0,
		"one word":             1,
		"two words":            2,
		"three segments":       7,
		"empty at the ends":    4,
		"a repeated segment":   9,
		"seven equal segments": 28,
	} {
		segs, ok := messages()[name]
		if got := arena.Size(segs); !ok || got != want {
			t.Errorf("%s: Size = %d, want %d", name, got, want)
		}
	}
}

func TestSizeOfManySegments(t *testing.T) {
	var segs [][]uint64
	want := 0
	for n := range 600 {
		if got := arena.Size(segs); got != want {
			t.Fatalf("Size of %d segments = %d, want %d", n, got, want)
		}
		segs = append(segs, make([]uint64, n%40))
		want += n % 40
	}
}

func TestSizeIgnoresTheCapacity(t *testing.T) {
	list := [][]uint64{make([]uint64, 2, 9), make([]uint64, 0, 5), {1, 2, 3}}
	if got := arena.Size(list[:2]); got != 2 {
		t.Errorf("Size = %d", got)
	}
}

// P5.3

func TestARangeIsInBoundsIfItsWordsCanBeRead(t *testing.T) {
	for name, segs := range messages() {
		for seg := -1; seg <= len(segs); seg++ {
			for at := -1; at <= 7; at++ {
				for n := 1; n <= 8; n++ {
					checkWordByWord(t, name, segs, seg, at, n)
				}
			}
		}
	}
}

// checkWordByWord checks that a range of at least one word is in bounds exactly if Word returns each of its words, and that they are those of Slice.
func checkWordByWord(t *testing.T, name string, segs [][]uint64, seg, at, n int) {
	t.Helper()
	var words []uint64
	readable := true
	for i := range n {
		w, ok := arena.Word(segs, seg, at+i)
		readable = readable && ok
		words = append(words, w)
	}
	if got := arena.InBounds(segs, seg, at, n); got != readable {
		t.Errorf("%s: InBounds(%d, %d, %d) = %v", name, seg, at, n, got)
	}
	got, ok := arena.Slice(segs, seg, at, n)
	if ok != readable || ok && !slices.Equal(got, words) {
		t.Errorf("%s: Slice(%d, %d, %d) = %d, %v, words %d", name, seg, at, n, got, ok, words)
	}
}

// P5.4

func TestArgumentsAreNotModified(t *testing.T) {
	whole := []uint64{1, 2, 3, 4, 5, 6}
	list := [][]uint64{whole[:2], whole[2:2], whole[3:5], whole[5:]}
	segs := list[:3]
	for seg := -1; seg <= 3; seg++ {
		for at := -1; at <= 3; at++ {
			for n := -1; n <= 3; n++ {
				arena.Word(segs, seg, at)
				arena.InBounds(segs, seg, at, n)
				arena.Slice(segs, seg, at, n)
				arena.Size(segs)
			}
		}
	}
	if !slices.Equal(whole, []uint64{1, 2, 3, 4, 5, 6}) {
		t.Errorf("words or unused capacity changed: %d", whole)
	}
	if !slices.EqualFunc(list, [][]uint64{{1, 2}, {}, {4, 5}, {6}}, slices.Equal[[]uint64]) {
		t.Errorf("the list of segments changed: %d", list)
	}
}

func TestSlicesDoNotShareMemory(t *testing.T) {
	for at := range 4 {
		for n := range 5 - at {
			segs := [][]uint64{{1, 2, 3, 4}, {5}}
			want := []uint64{1, 2, 3, 4}[at : at+n]
			words, ok := arena.Slice(segs, 0, at, n)
			again, _ := arena.Slice(segs, 0, at, n)
			clear(again[:cap(again)])
			if !ok || !slices.Equal(words, want) {
				t.Errorf("Slice at %d of %d words = %d, %v after a change of another result", at, n, words, ok)
			}
			if !slices.Equal(segs[0], []uint64{1, 2, 3, 4}) || !slices.Equal(segs[1], []uint64{5}) {
				t.Errorf("a change of the result of Slice at %d of %d words is visible in its argument: %d", at, n, segs)
			}
			clear(segs[0])
			clear(segs)
			if !slices.Equal(words, want) {
				t.Errorf("a change of the argument of Slice at %d of %d words is visible in its result: %d", at, n, words)
			}
		}
	}
}

// A part of a segment as a result would let its capacity be written through an append.
func TestAppendingToASliceDoesNotChangeTheSegment(t *testing.T) {
	segs := [][]uint64{{1, 2, 3}}
	for at := range 4 {
		for n := range 4 - at {
			words, _ := arena.Slice(segs, 0, at, n)
			_ = append(words, 99)
			if !slices.Equal(segs[0], []uint64{1, 2, 3}) {
				t.Fatalf("an append to the range of %d words at %d changed the segment: %d", n, at, segs[0])
			}
		}
	}
}
