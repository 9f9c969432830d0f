package far_test

import (
	"math"
	"math/big"
	"math/rand"
	"slices"
	"testing"

	"capnp/api"
	"capnp/far"
)

// A result is what Follow returns.
type result struct {
	w       uint64
	seg, at int
	err     api.Errno
}

var (
	errBounds = result{err: api.ErrBounds}
	errFar    = result{err: api.ErrFar}
)

func follow(segs [][]uint64, seg, at int) result {
	w, baseSeg, base, err := far.Follow(segs, seg, at)
	return result{w, baseSeg, base, err}
}

// single returns the word of a far pointer that is not double.
func single(seg, pad uint64) uint64 { return seg<<32 | pad<<3 | 2 }

// double returns the word of a double-far pointer.
func double(seg, pad uint64) uint64 { return seg<<32 | pad<<3 | 6 }

// Words of the kinds that are not far pointers, with fields that are not 0.
const (
	aStruct = 0x0001000200000000 // Offset 0
	aList   = 0x0000002a00000001 // Offset 0

	farStruct  = 0x0001000200000004 // Offset 1
	farList    = 0x0000002a00000005 // Offset 1
	backStruct = 0x00010002fffffffc // Offset -1
	backList   = 0x0000002afffffffd // Offset -1

	capability = 0x0000000300000003
	reserved   = 0x0000000000000007
)

// plain are words that are not far pointers.
var plain = []uint64{
	0, 1, 3, 4, 5, 7, aStruct, aList, farStruct, farList, backStruct, backList, capability, reserved,
	0x8000000000000000, 0x00000000fffffffc, 0x00000000fffffffd, 0xfffffffffffffffc, 0xfffffffffffffffd, 0xffffffffffffffff,
}

// tags are the words that may be the second one of the landing pad of a double-far pointer.
var tags = []uint64{0, 1, aStruct, aList, 0xffff000000000000, 0x0000ffff00000000, 0xffffffff00000000, 0xffffffff00000001, 0x0000000700000001}

// expected is the definition of the chapter, written with shifts and with integers that do not overflow.
func expected(segs [][]uint64, seg, at int) result {
	w, ok := load(segs, big.NewInt(int64(seg)), big.NewInt(int64(at)))
	if !ok {
		return errBounds
	}
	if w&3 != 2 {
		return result{w: w, seg: seg, at: at + 1}
	}
	padSeg, pad := int(w>>32), int(w&0xfffffff8>>3)
	first, ok := load(segs, big.NewInt(int64(padSeg)), big.NewInt(int64(pad)))
	if !ok {
		return errBounds
	}
	if w&4 == 0 {
		if first&3 == 2 {
			return errFar
		}
		return result{w: first, seg: padSeg, at: pad + 1}
	}
	second, ok := load(segs, big.NewInt(int64(padSeg)), big.NewInt(int64(pad)+1))
	if !ok {
		return errBounds
	}
	if first&7 != 2 || second&0xfffffffe != 0 {
		return errFar
	}
	return result{w: second, seg: int(first >> 32), at: int(first & 0xfffffff8 >> 3)}
}

// load returns the word at a position, and whether it exists.
func load(segs [][]uint64, seg, at *big.Int) (uint64, bool) {
	for i, words := range segs {
		for j, w := range words {
			if seg.Cmp(big.NewInt(int64(i))) == 0 && at.Cmp(big.NewInt(int64(j))) == 0 {
				return w, true
			}
		}
	}
	return 0, false
}

func check(t *testing.T, segs [][]uint64, seg, at int, want result) {
	t.Helper()
	if got := follow(segs, seg, at); got != want {
		t.Errorf("Follow(%#x, %d, %d) = %+v, want %+v", segs, seg, at, got, want)
	}
}

// P7.1: pointers that are not far pointers.

func TestOtherPointersAreTheirOwnDescriptors(t *testing.T) {
	for _, w := range plain {
		check(t, [][]uint64{{w}}, 0, 0, result{w: w, seg: 0, at: 1})
		check(t, [][]uint64{{2, 2, w, 2}}, 0, 2, result{w: w, seg: 0, at: 3})
		check(t, [][]uint64{{2}, nil, {2, w}}, 2, 1, result{w: w, seg: 2, at: 2})
	}
}

// P7.1: far pointers that are not double.

func TestExampleOfTheChapter(t *testing.T) {
	check(t, [][]uint64{{single(1, 0)}, {0}}, 0, 0, result{w: 0, seg: 1, at: 1})
}

func TestTheLandingPadOfAFarPointer(t *testing.T) {
	for _, w := range plain {
		check(t, [][]uint64{{single(1, 0)}, {w}}, 0, 0, result{w: w, seg: 1, at: 1})
		check(t, [][]uint64{{single(0, 1), w}}, 0, 0, result{w: w, seg: 0, at: 2})
		check(t, [][]uint64{{w, 2, single(0, 0)}}, 0, 2, result{w: w, seg: 0, at: 1})
		check(t, [][]uint64{{}, {2, 2, 2, w}, {2, 2, single(1, 3)}}, 2, 2, result{w: w, seg: 1, at: 4})
		check(t, [][]uint64{{single(3, 1)}, nil, nil, {9, w, 9}}, 0, 0, result{w: w, seg: 3, at: 2})
	}
}

func TestALandingPadWithAFarPointer(t *testing.T) {
	for _, w := range []uint64{single(0, 0), double(0, 0), single(1, 0), double(1, 0), single(0, 1), single(9, 9), double(9, 9), math.MaxUint64 - 1, math.MaxUint64 - 5} {
		check(t, [][]uint64{{single(1, 0), 0, 0}, {w, 0}}, 0, 0, errFar)
		check(t, [][]uint64{{single(0, 1), w, 0}, {0}}, 0, 0, errFar)
	}
	check(t, [][]uint64{{single(0, 0)}}, 0, 0, errFar)               // it points to itself
	check(t, [][]uint64{{single(0, 1), single(0, 0)}}, 0, 0, errFar) // two point to each other
}

func TestALandingPadOutOfBounds(t *testing.T) {
	for _, pad := range []uint64{2, 3, 1 << 28, 1<<29 - 1} {
		check(t, [][]uint64{{single(0, pad), 0}}, 0, 0, errBounds)
		check(t, [][]uint64{{single(1, pad), 0}, {0, 0}}, 0, 0, errBounds)
	}
	for _, seg := range []uint64{1, 2, 1<<31 - 1, 1 << 31, 1<<32 - 1} {
		check(t, [][]uint64{{single(seg, 0), 0}}, 0, 0, errBounds)
		check(t, [][]uint64{{single(seg, 1), 0}, {0}, nil}, 0, 0, errBounds)
	}
}

// P7.1: double-far pointers.

func TestTheLandingPadOfADoubleFarPointer(t *testing.T) {
	for _, w := range tags {
		check(t, [][]uint64{{double(1, 0)}, {single(2, 0), w}, {5}}, 0, 0, result{w: w, seg: 2, at: 0})
		check(t, [][]uint64{{double(1, 0)}, {single(2, 7), w}, {5}}, 0, 0, result{w: w, seg: 2, at: 7})
		check(t, [][]uint64{{double(0, 1), single(0, 0), w}}, 0, 0, result{w: w, seg: 0, at: 0})
		check(t, [][]uint64{{2, double(2, 1)}, nil, {2, single(0, 1), w, 2}}, 0, 1, result{w: w, seg: 0, at: 1})
	}
}

func TestThePositionBehindADoubleFarPointerNeedNotExist(t *testing.T) {
	for _, w := range tags {
		for _, seg := range []uint64{0, 1, 2, 3, 1<<31 - 1, 1 << 31, 1<<32 - 1} {
			for _, at := range []uint64{0, 1, 2, 3, 1 << 28, 1<<29 - 1} {
				check(t, [][]uint64{{double(1, 0)}, {single(seg, at), w}, nil}, 0, 0, result{w: w, seg: int(seg), at: int(at)})
			}
		}
	}
}

func TestTheFirstWordOfALandingPad(t *testing.T) {
	wrong := append([]uint64{double(2, 0), double(0, 0), double(1, 0), double(9, 9), math.MaxUint64 - 1}, plain...)
	for _, first := range wrong {
		for _, second := range tags {
			check(t, [][]uint64{{double(1, 0)}, {first, second}, {0, 0}}, 0, 0, errFar)
		}
	}
}

func TestTheSecondWordOfALandingPad(t *testing.T) {
	wrong := []uint64{
		farStruct, farList, backStruct, backList, 4, 5, 8, 9, 0x80000000, 0x80000001, 0x7ffffffc, 0x7ffffffd, 0xfffffffffffffffc, 0xfffffffffffffffd,
		capability, reserved, 3, 7, 0xffffffffffffffff, 0x80000003, single(0, 0), double(0, 0), single(2, 0), double(2, 0), single(9, 9),
	}
	for bit := 2; bit < 32; bit++ {
		wrong = append(wrong, aStruct|1<<bit, aList|1<<bit)
	}
	for _, second := range wrong {
		check(t, [][]uint64{{double(1, 0)}, {single(2, 0), second}, {0, 0}}, 0, 0, errFar)
	}
}

// The null word is a struct pointer with Offset 0.
func TestTheSecondWordMayBeNull(t *testing.T) {
	check(t, [][]uint64{{double(1, 0)}, {single(3, 4), 0}}, 0, 0, result{w: 0, seg: 3, at: 4})
}

func TestALandingPadOfTwoWordsOutOfBounds(t *testing.T) {
	for _, pad := range []uint64{1, 2, 3, 1 << 28, 1<<29 - 1} {
		check(t, [][]uint64{{double(1, pad), 0, 0}, {single(0, 0), single(0, 0)}}, 0, 0, errBounds)
	}
	for _, seg := range []uint64{2, 3, 1<<31 - 1, 1 << 31, 1<<32 - 1} {
		check(t, [][]uint64{{double(seg, 0), 0}, {single(0, 0), 0}}, 0, 0, errBounds)
	}
	check(t, [][]uint64{{double(1, 0)}, {}}, 0, 0, errBounds)
	check(t, [][]uint64{{double(0, 0)}}, 0, 0, errBounds)
}

// Both words are read before the first one is checked.
func TestAMissingSecondWordComesBeforeAWrongFirstWord(t *testing.T) {
	for _, first := range append([]uint64{single(0, 0), double(0, 0), double(9, 9)}, plain...) {
		check(t, [][]uint64{{double(1, 0)}, {first}}, 0, 0, errBounds)
		check(t, [][]uint64{{double(1, 2)}, {0, 0, first}, {0}}, 0, 0, errBounds)
	}
}

// P7.1: positions that do not exist.

func TestThePointerOutOfBounds(t *testing.T) {
	edges := []int{math.MinInt, math.MinInt + 1, -1 << 32, -1<<32 + 1, -2, -1, 0, 1, 2, 3, 1 << 29, 1 << 32, 1<<32 + 1, math.MaxInt - 1, math.MaxInt}
	for _, segs := range [][][]uint64{nil, {}, {nil}, {{}, {}}, {{5}}, {{5, 2}, {}, {single(0, 0)}}} {
		for _, seg := range edges {
			for _, at := range edges {
				check(t, segs, seg, at, expected(segs, seg, at))
			}
		}
	}
	check(t, nil, 0, 0, errBounds)
	check(t, [][]uint64{nil}, 0, 0, errBounds)
	check(t, [][]uint64{{0}}, 0, 1, errBounds)
	check(t, [][]uint64{{0}}, 0, -1, errBounds)
	check(t, [][]uint64{{0}}, 1, 0, errBounds)
	check(t, [][]uint64{{0}}, -1, 0, errBounds)
}

func TestUnusedCapacityIsOutOfBounds(t *testing.T) {
	whole := []uint64{single(0, 1), 0, single(2, 0), 0}
	list := [][]uint64{whole[:1], {single(0, 0), 0}, {0}}
	check(t, list, 0, 0, errBounds)
	check(t, list, 0, 1, errBounds)
	check(t, [][]uint64{{double(1, 0)}, whole[2:3]}, 0, 0, errBounds)
	check(t, [][]uint64{{single(2, 0)}, nil, {0}}[:2], 0, 0, errBounds)
}

// P7.1: every message of few words, of a choice with all cases.

func TestEverySmallMessage(t *testing.T) {
	words := []uint64{
		0, aStruct, aList, farStruct, backList, capability, reserved,
		single(0, 0), single(0, 1), single(1, 0), single(1, 1), single(1, 2), single(2, 0),
		double(0, 0), double(0, 1), double(1, 0), double(1, 1), double(2, 0),
	}
	for _, a := range words {
		for _, b := range words {
			for _, c := range words {
				checkEverywhere(t, [][]uint64{{a, b, c}})
				checkEverywhere(t, [][]uint64{{a}, {b, c}})
				checkEverywhere(t, [][]uint64{{a, b}, {c}})
			}
		}
	}
}

func TestMessagesOfManySegments(t *testing.T) {
	source := rand.New(rand.NewSource(7))
	for range 4000 {
		segs := make([][]uint64, 1+source.Intn(4))
		for i := range segs {
			segs[i] = make([]uint64, source.Intn(5))
			for j := range segs[i] {
				segs[i][j] = someWord(source)
			}
		}
		checkEverywhere(t, segs)
	}
}

// someWord returns a far pointer to a small position, most of the time, or any other word.
func someWord(source *rand.Rand) uint64 {
	switch source.Intn(8) {
	case 0:
		return source.Uint64()
	case 1:
		return plain[source.Intn(len(plain))]
	case 2, 3:
		return tags[source.Intn(len(tags))]
	case 4, 5:
		return double(uint64(source.Intn(4)), uint64(source.Intn(4)))
	}
	return single(uint64(source.Intn(5)), uint64(source.Intn(5)))
}

// checkEverywhere checks Follow at every position of a message and at those around it.
func checkEverywhere(t *testing.T, segs [][]uint64) {
	t.Helper()
	for seg := -1; seg <= len(segs); seg++ {
		size := 0
		if seg >= 0 && seg < len(segs) {
			size = len(segs[seg])
		}
		for at := -1; at <= size; at++ {
			check(t, segs, seg, at, expected(segs, seg, at))
		}
	}
}

// P7.1: IsFar and Landing.

func TestKnownFarPointers(t *testing.T) {
	for _, x := range []struct {
		w        uint64
		seg, pad int
	}{
		{0x0000000000000002, 0, 0},
		{0x0000000000000006, 0, 0},
		{0x000000000000000a, 0, 1},
		{0x000000000000000e, 0, 1},
		{0x0000000100000002, 1, 0},
		{0x0000000200000026, 2, 4},
		{0x00000000fffffffa, 0, 1<<29 - 1},
		{0xffffffff00000002, 1<<32 - 1, 0},
		{0x8000000080000002, 1 << 31, 1 << 28},
		{0xfffffffffffffffa, 1<<32 - 1, 1<<29 - 1},
		{0xfffffffffffffffe, 1<<32 - 1, 1<<29 - 1},
	} {
		if !far.IsFar(x.w) {
			t.Errorf("IsFar(%#x) = false", x.w)
		}
		if seg, pad := far.Landing(x.w); seg != x.seg || pad != x.pad {
			t.Errorf("Landing(%#x) = %d, %d, want %d, %d", x.w, seg, pad, x.seg, x.pad)
		}
	}
	for _, w := range plain {
		if far.IsFar(w) {
			t.Errorf("IsFar(%#x) = true", w)
		}
	}
}

func TestEveryBitOfAFarPointer(t *testing.T) {
	for kind := range uint64(4) {
		for i := 2; i < 64; i++ {
			for j := i; j < 64; j++ {
				bits := uint64(1)<<i | uint64(1)<<j
				checkWord(t, kind|bits)
				checkWord(t, kind|^bits&^3)
			}
		}
	}
}

// checkWord checks IsFar and, for a far pointer, Landing.
func checkWord(t *testing.T, w uint64) {
	t.Helper()
	if got := far.IsFar(w); got != (w&3 == 2) {
		t.Errorf("IsFar(%#x) = %v", w, got)
	}
	seg, pad := far.Landing(w) // of other pointers it is open, but does not panic
	if w&3 == 2 && (seg != int(w>>32) || pad != int(uint32(w)>>3)) {
		t.Errorf("Landing(%#x) = %d, %d", w, seg, pad)
	}
}

// P7.2

func TestADescriptorIsNeverAFarPointer(t *testing.T) {
	source := rand.New(rand.NewSource(72))
	for range 20000 {
		segs := [][]uint64{{someWord(source), someWord(source)}, {someWord(source), someWord(source), someWord(source)}}
		if w, _, _, err := far.Follow(segs, 0, 0); err == api.OK && far.IsFar(w) || err != api.OK && w != 0 {
			t.Fatalf("Follow(%#x, 0, 0) has the descriptor %#x and the error %d", segs, w, err)
		}
	}
}

// The words of the landing pad of a landing pad would change the result if they were read.
func TestAtMostThreeWordsAreRead(t *testing.T) {
	for _, x := range []struct {
		segs [][]uint64
		read [][2]int // the positions of the words that are read
	}{
		{[][]uint64{{aStruct, 0}, {0, 0, 0}, {0, 0, 0}}, [][2]int{{0, 0}}},
		{[][]uint64{{single(1, 0), 0}, {aList, 0, 0}, {0, 0, 0}}, [][2]int{{0, 0}, {1, 0}}},
		{[][]uint64{{single(1, 0), 0}, {single(2, 0), 0, 0}, {0, 0, 0}}, [][2]int{{0, 0}, {1, 0}}},
		{[][]uint64{{single(1, 0), 0}, {double(2, 0), 0, 0}, {0, 0, 0}}, [][2]int{{0, 0}, {1, 0}}},
		{[][]uint64{{double(1, 0), 0}, {single(2, 0), aList, 0}, {0, 0, 0}}, [][2]int{{0, 0}, {1, 0}, {1, 1}}},
		{[][]uint64{{double(1, 0), 0}, {double(2, 0), aList, 0}, {0, 0, 0}}, [][2]int{{0, 0}, {1, 0}, {1, 1}}},
		{[][]uint64{{double(1, 0), 0}, {single(2, 0), single(2, 0), 0}, {0, 0, 0}}, [][2]int{{0, 0}, {1, 0}, {1, 1}}},
	} {
		want := follow(x.segs, 0, 0)
		for seg, words := range x.segs {
			for at := range words {
				if slices.Contains(x.read, [2]int{seg, at}) {
					continue
				}
				for _, w := range append([]uint64{single(2, 0), double(2, 0), double(0, 0)}, plain...) {
					other := clone(x.segs)
					other[seg][at] = w
					check(t, other, 0, 0, want)
				}
			}
		}
	}
}

// clone returns a message with copies of the segments.
func clone(segs [][]uint64) [][]uint64 {
	var c [][]uint64
	for _, words := range segs {
		c = append(c, slices.Clone(words))
	}
	return c
}

// P7.3

func TestArgumentsAreNotModified(t *testing.T) {
	whole := []uint64{single(1, 0), double(1, 1), aList, single(1, 1), single(2, 0), aStruct, double(9, 9), 5}
	list := [][]uint64{whole[:3], whole[3:6], whole[6:7], whole[7:]}
	words, segs := slices.Clone(whole), clone(list)
	for seg := -1; seg <= 3; seg++ {
		for at := -1; at <= 3; at++ {
			far.Follow(list[:3], seg, at)
		}
	}
	if !slices.Equal(whole, words) {
		t.Errorf("words or unused capacity changed: %#x", whole)
	}
	if !slices.EqualFunc(list, segs, slices.Equal[[]uint64]) {
		t.Errorf("the list of segments changed: %#x", list)
	}
}
