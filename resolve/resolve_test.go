package resolve_test

import (
	"math"
	"math/big"
	"math/rand"
	"slices"
	"testing"

	"capnp/api"
	"capnp/far"
	"capnp/resolve"
)

// A result is what Object returns.
type result struct {
	o   api.Object
	err api.Errno
}

var (
	null       = result{o: api.Object{Kind: api.NodeNull}}
	bounds     = result{err: api.ErrBounds}
	badFar     = result{err: api.ErrFar}
	badKind    = result{err: api.ErrKind}
	badTag     = result{err: api.ErrTag}
	capability = result{err: api.ErrCapability}
)

// structOf returns the result for a struct.
func structOf(seg, at, data, ptrs, cost int) result {
	return result{o: api.Object{Kind: api.NodeStruct, Seg: seg, At: at, Data: data, Ptrs: ptrs, Cost: cost}}
}

// listOf returns the result for a list that is not composite.
func listOf(seg, at, elem, n, cost int) result {
	return result{o: api.Object{Kind: api.NodeList, Seg: seg, At: at, Elem: elem, N: n, Cost: cost}}
}

// compositeOf returns the result for a composite list.
func compositeOf(seg, at, n, data, ptrs, cost int) result {
	return result{o: api.Object{Kind: api.NodeList, Seg: seg, At: at, Data: data, Ptrs: ptrs, Elem: api.ElemComposite, N: n, Cost: cost}}
}

// structTo returns the word of a struct pointer.
func structTo(offset, data, ptrs int) uint64 {
	return uint64(ptrs)<<48 | uint64(data)<<32 | uint64(uint32(offset)<<2)
}

// listTo returns the word of a list pointer.
func listTo(offset, elem, count int) uint64 {
	return uint64(count)<<35 | uint64(elem)<<32 | uint64(uint32(offset)<<2) | 1
}

// single returns the word of a far pointer that is not double.
func single(seg, pad uint64) uint64 { return seg<<32 | pad<<3 | 2 }

// double returns the word of a double-far pointer.
func double(seg, pad uint64) uint64 { return seg<<32 | pad<<3 | 6 }

// other returns the word of a pointer of kind PtrOther.
func other(index, low uint64) uint64 { return index<<32 | low<<2 | 3 }

// expected is the definition of the chapter, written with shifts and with integers that do not overflow.
func expected(segs [][]uint64, seg, at int) result {
	w, baseSeg, base, err := far.Follow(segs, seg, at)
	if err != api.OK {
		return result{err: err}
	}
	start := base + int(int32(w)>>2)
	high := int(w >> 32)
	switch {
	case w == 0:
		return null
	case w&3 == 0:
		data, ptrs := high&0xffff, high>>16
		if !fits(segs, baseSeg, start, data+ptrs) {
			return bounds
		}
		return structOf(baseSeg, start, data, ptrs, data+ptrs)
	case w&3 == 1 && high&7 == 7:
		return expectedComposite(segs, baseSeg, start, high>>3)
	case w&3 == 1:
		bits := []int{0, 1, 8, 16, 32, 64, 64}[high&7] * (high >> 3)
		words := bits / 64
		if bits%64 > 0 {
			words++
		}
		if !fits(segs, baseSeg, start, words) {
			return bounds
		}
		return listOf(baseSeg, start, high&7, high>>3, words)
	case uint32(w) == 3:
		return capability
	}
	return badKind
}

func expectedComposite(segs [][]uint64, seg, start, count int) result {
	if !fits(segs, seg, start, count+1) {
		return bounds
	}
	tag := segs[seg][start]
	n, data, ptrs := int(int32(tag)>>2), int(tag>>32&0xffff), int(tag>>48)
	words := new(big.Int).Mul(big.NewInt(int64(n)), big.NewInt(int64(data+ptrs)))
	if tag&3 != 0 || n < 0 || words.Cmp(big.NewInt(int64(count))) > 0 {
		return badTag
	}
	if data+ptrs == 0 {
		return compositeOf(seg, start+1, n, 0, 0, count+1+n)
	}
	return compositeOf(seg, start+1, n, data, ptrs, count+1)
}

// fits reports whether n words at a position exist.
func fits(segs [][]uint64, seg, at, n int) bool {
	if seg < 0 || seg >= len(segs) || at < 0 {
		return false
	}
	return at <= len(segs[seg]) && n <= len(segs[seg])-at
}

func check(t *testing.T, segs [][]uint64, seg, at int, want result) {
	t.Helper()
	if o, err := resolve.Object(segs, seg, at); (result{o, err}) != want {
		t.Errorf("Object(%#x, %d, %d) = %+v, %d, want %+v", segs, seg, at, o, err, want)
	}
}

// checkEverywhere checks Object at every position of a message and at those around it.
func checkEverywhere(t *testing.T, segs [][]uint64) {
	t.Helper()
	for seg := -1; seg <= len(segs); seg++ {
		size := 0
		if seg >= 0 && seg < len(segs) {
			size = len(segs[seg])
		}
		for at := -1; at <= size; at++ {
			check(t, segs, seg, at, expected(segs, seg, at))
		}
	}
}

// P8.1: null.

func TestNull(t *testing.T) {
	check(t, [][]uint64{{0}}, 0, 0, null)
	check(t, [][]uint64{{9, 9}, {9, 9, 0}}, 1, 2, null)
	check(t, [][]uint64{{single(1, 1)}, {9, 0}}, 0, 0, null)
	check(t, [][]uint64{{double(1, 0)}, {single(0, 0), 0}}, 0, 0, null)
}

// A null pointer has no contents, so that nothing need exist.
func TestNullBehindALandingPadThatPointsNowhere(t *testing.T) {
	check(t, [][]uint64{{double(1, 0)}, {single(9, 9), 0}}, 0, 0, null)
	check(t, [][]uint64{{double(1, 0)}, {single(1<<32-1, 1<<29-1), 0}}, 0, 0, null)
}

// P8.1: structs.

func TestTheExampleOfTheChapter(t *testing.T) {
	check(t, [][]uint64{{structTo(-1, 0, 0)}}, 0, 0, structOf(0, 0, 0, 0, 0))
	check(t, [][]uint64{{9}, {9, 9, 0x00000000fffffffc}}, 1, 2, structOf(1, 2, 0, 0, 0))
}

func TestKnownStructs(t *testing.T) {
	for _, x := range []struct {
		segs    [][]uint64
		seg, at int
		want    result
	}{
		{[][]uint64{{0x0000000100000000, 5}}, 0, 0, structOf(0, 1, 1, 0, 1)},
		{[][]uint64{{0x0001000000000000, 0}}, 0, 0, structOf(0, 1, 0, 1, 1)},
		{[][]uint64{{0x0002000100000000, 5, 0, 0}}, 0, 0, structOf(0, 1, 1, 2, 3)},
		{[][]uint64{{0x0002000100000004, 9, 5, 0, 0, 9}}, 0, 0, structOf(0, 2, 1, 2, 3)},
		{[][]uint64{{9}, {9, 5, 0, 0, 0x00020001fffffff0, 9}}, 1, 4, structOf(1, 1, 1, 2, 3)},
		{[][]uint64{{0x00010000fffffffc}}, 0, 0, structOf(0, 0, 0, 1, 1)},   // it refers to itself
		{[][]uint64{{structTo(1, 0, 0), 9}}, 0, 0, structOf(0, 2, 0, 0, 0)}, // at the end of its segment
		{[][]uint64{{structTo(2, 0, 0), 9}}, 0, 0, bounds},                  // one word further
		{[][]uint64{{structTo(-2, 0, 0), 9}}, 0, 0, bounds},                 // before its segment
		{[][]uint64{{structTo(0, 1, 0)}}, 0, 0, bounds},                     // no contents
		{[][]uint64{{structTo(0, 1, 1), 9}}, 0, 0, bounds},                  // half of them
		{[][]uint64{{structTo(0, 1, 1), 9}, {9, 9}}, 0, 0, bounds},          // the next segment does not count
		{[][]uint64{{structTo(0, 65535, 65535), 9}}, 0, 0, bounds},          // the largest struct
		{[][]uint64{{structTo(api.MaxOffset, 0, 0), 9}}, 0, 0, bounds},      // far behind
		{[][]uint64{{structTo(api.MinOffset, 0, 0), 9}}, 0, 0, bounds},      // far before
		{[][]uint64{{structTo(api.MaxOffset, 65535, 65535), 9}}, 0, 0, bounds},
		{[][]uint64{{single(1, 0)}, {structTo(0, 1, 0)}, {9}}, 0, 0, bounds}, // the base is in the segment of the pad
		{[][]uint64{{single(1, 0), 9}, {structTo(0, 1, 0)}}, 0, 0, bounds},
		{[][]uint64{{single(1, 0)}, {structTo(0, 1, 0), 9}}, 0, 0, structOf(1, 1, 1, 0, 1)},
		{[][]uint64{{single(1, 1)}, {9, structTo(-2, 1, 1), 9}}, 0, 0, structOf(1, 0, 1, 1, 2)},
		{[][]uint64{{double(1, 0)}, {single(2, 0), structTo(0, 1, 1)}, {9, 9}}, 0, 0, structOf(2, 0, 1, 1, 2)},
		{[][]uint64{{double(1, 0)}, {single(2, 3), structTo(0, 0, 2)}, {9, 9, 9, 9, 9}}, 0, 0, structOf(2, 3, 0, 2, 2)},
		{[][]uint64{{double(1, 0)}, {single(2, 4), structTo(0, 0, 2)}, {9, 9, 9, 9, 9}}, 0, 0, bounds},
	} {
		check(t, x.segs, x.seg, x.at, x.want)
	}
}

func TestStructsOfEverySmallSizeAtEveryOffset(t *testing.T) {
	for size := 1; size <= 5; size++ {
		for at := range size {
			for offset := -7; offset <= 7; offset++ {
				for data := range 4 {
					for ptrs := range 4 {
						words := make([]uint64, size)
						words[at] = structTo(offset, data, ptrs)
						start := at + 1 + offset
						want := structOf(1, start, data, ptrs, data+ptrs)
						if words[at] == 0 {
							want = null
						} else if start < 0 || start+data+ptrs > size {
							want = bounds
						}
						check(t, [][]uint64{{1, 2, 3, 4, 5, 6, 7}, words, {1, 2, 3, 4, 5, 6, 7}}, 1, at, want)
					}
				}
			}
		}
	}
}

func TestTheLargestSections(t *testing.T) {
	whole := make([]uint64, 1+2*65535)
	whole[0] = structTo(0, 65535, 65535)
	check(t, [][]uint64{whole}, 0, 0, structOf(0, 1, 65535, 65535, 131070))
	check(t, [][]uint64{whole[:len(whole)-1]}, 0, 0, bounds)
	whole[0] = structTo(65535, 65535, 0)
	check(t, [][]uint64{whole}, 0, 0, structOf(0, 65536, 65535, 0, 65535))
	whole[0] = structTo(65536, 65535, 0)
	check(t, [][]uint64{whole}, 0, 0, bounds)
}

// P8.1: lists that are not composite.

func TestKnownLists(t *testing.T) {
	for _, x := range []struct {
		segs [][]uint64
		want result
	}{
		{[][]uint64{{0x0000000000000001}}, listOf(0, 1, api.ElemVoid, 0, 0)},
		{[][]uint64{{listTo(0, api.ElemVoid, api.MaxCount)}}, listOf(0, 1, api.ElemVoid, api.MaxCount, 0)},
		{[][]uint64{{listTo(0, api.ElemBit, 0)}}, listOf(0, 1, api.ElemBit, 0, 0)},
		{[][]uint64{{listTo(0, api.ElemBit, 1), 9}}, listOf(0, 1, api.ElemBit, 1, 1)},
		{[][]uint64{{listTo(0, api.ElemBit, 64), 9}}, listOf(0, 1, api.ElemBit, 64, 1)},
		{[][]uint64{{listTo(0, api.ElemBit, 65), 9}}, bounds},
		{[][]uint64{{listTo(0, api.ElemBit, 65), 9, 9}}, listOf(0, 1, api.ElemBit, 65, 2)},
		{[][]uint64{{0x0000004a00000001, 9, 9}}, listOf(0, 1, api.ElemByte, 9, 2)},
		{[][]uint64{{0x0000004a00000001, 9}}, bounds},
		{[][]uint64{{0x0000000b00000001, 9}}, listOf(0, 1, api.ElemTwo, 1, 1)},
		{[][]uint64{{0x0000002b00000001, 9, 9}}, listOf(0, 1, api.ElemTwo, 5, 2)},
		{[][]uint64{{0x0000001c00000001, 9, 9}}, listOf(0, 1, api.ElemFour, 3, 2)},
		{[][]uint64{{0x0000001d00000001, 9, 9, 9}}, listOf(0, 1, api.ElemEight, 3, 3)},
		{[][]uint64{{0x0000001e00000001, 9, 9, 9}}, listOf(0, 1, api.ElemPointer, 3, 3)},
		{[][]uint64{{0x0000001e00000001, 9, 9}}, bounds},
		{[][]uint64{{0x0000000efffffffd}}, listOf(0, 0, api.ElemPointer, 1, 1)}, // it refers to itself
		{[][]uint64{{listTo(1, api.ElemVoid, 5), 9}}, listOf(0, 2, api.ElemVoid, 5, 0)},
		{[][]uint64{{listTo(2, api.ElemVoid, 5), 9}}, bounds},
		{[][]uint64{{listTo(-2, api.ElemVoid, 5), 9}}, bounds},
		{[][]uint64{{listTo(api.MaxOffset, api.ElemVoid, 0), 9}}, bounds},
		{[][]uint64{{listTo(api.MinOffset, api.ElemVoid, 0), 9}}, bounds},
		{[][]uint64{{single(1, 0)}, {listTo(0, api.ElemByte, 8), 9}}, listOf(1, 1, api.ElemByte, 8, 1)},
		{[][]uint64{{single(1, 1), 9}, {9, listTo(0, api.ElemByte, 8)}}, bounds},
		{[][]uint64{{double(1, 0)}, {single(2, 1), listTo(0, api.ElemFour, 4)}, {9, 9, 9}}, listOf(2, 1, api.ElemFour, 4, 2)},
		{[][]uint64{{double(1, 0)}, {single(2, 1), listTo(0, api.ElemFour, 5)}, {9, 9, 9}}, bounds},
	} {
		check(t, x.segs, 0, 0, x.want)
	}
}

// A list without words, too, needs a position that exists. (An empty struct at Offset 0 is null.)
func TestTheContentsOfAnEmptyListExist(t *testing.T) {
	list := func(seg, at uint64) [][]uint64 {
		return [][]uint64{{double(1, 0)}, {single(seg, at), listTo(0, api.ElemVoid, 3)}, {}}
	}
	check(t, list(2, 0), 0, 0, listOf(2, 0, api.ElemVoid, 3, 0))
	check(t, list(1, 2), 0, 0, listOf(1, 2, api.ElemVoid, 3, 0))
	check(t, list(2, 1), 0, 0, bounds)
	check(t, list(3, 0), 0, 0, bounds)
	check(t, list(1<<31, 0), 0, 0, bounds)
	check(t, list(1<<32-1, 0), 0, 0, bounds)
	check(t, list(0, 1<<29-1), 0, 0, bounds)
}

func TestListsOfEverySmallCount(t *testing.T) {
	bits := []int{0, 1, 8, 16, 32, 64, 64}
	for elem, size := range bits {
		for count := range 200 {
			words := int(math.Ceil(float64(size*count) / 64))
			exact := make([]uint64, 2+words)
			exact[0] = listTo(1, elem, count)
			check(t, [][]uint64{exact}, 0, 0, listOf(0, 2, elem, count, words))
			check(t, [][]uint64{append(exact, 0)}, 0, 0, listOf(0, 2, elem, count, words))
			check(t, [][]uint64{exact[:len(exact)-1], exact}, 0, 0, bounds)
		}
	}
}

func TestTheLargestCounts(t *testing.T) {
	for elem := api.ElemBit; elem <= api.ElemComposite; elem++ {
		check(t, [][]uint64{{listTo(0, elem, api.MaxCount), 0, 0}}, 0, 0, bounds)
	}
	words := make([]uint64, 1+1<<23)
	words[0] = listTo(0, api.ElemBit, api.MaxCount)
	check(t, [][]uint64{words}, 0, 0, listOf(0, 1, api.ElemBit, api.MaxCount, 1<<23))
	check(t, [][]uint64{words[:len(words)-1]}, 0, 0, bounds)
}

// P8.1: composite lists.

func TestKnownCompositeLists(t *testing.T) {
	for _, x := range []struct {
		segs [][]uint64
		want result
	}{
		{[][]uint64{{0x0000000700000001, 0}}, compositeOf(0, 2, 0, 0, 0, 1)},
		{[][]uint64{{0x0000000700000001, 0x0000000000000004}}, compositeOf(0, 2, 1, 0, 0, 2)},
		{[][]uint64{{0x0000002700000001, 0x0001000100000008, 1, 0, 2, 0}}, compositeOf(0, 2, 2, 1, 1, 5)},
		{[][]uint64{{0x0000002700000001, 0x0000000200000008, 1, 0, 2, 0}}, compositeOf(0, 2, 2, 2, 0, 5)},
		{[][]uint64{{0x0000002700000001, 0x0004000000000004, 0, 0, 0, 0}}, compositeOf(0, 2, 1, 0, 4, 5)},
		{[][]uint64{{listTo(2, 7, 1), 9, 9, structTo(1, 1, 0), 9}}, compositeOf(0, 4, 1, 1, 0, 2)},
		{[][]uint64{{single(1, 0)}, {listTo(0, 7, 1), structTo(1, 1, 0), 9}}, compositeOf(1, 2, 1, 1, 0, 2)},
		{[][]uint64{{single(1, 2)}, {structTo(1, 1, 0), 9, listTo(-3, 7, 1)}}, compositeOf(1, 1, 1, 1, 0, 2)},
		{[][]uint64{{double(1, 0)}, {single(2, 1), listTo(0, 7, 1)}, {9, structTo(1, 1, 0), 9}}, compositeOf(2, 2, 1, 1, 0, 2)},
		// Words that no element uses are charged.
		{[][]uint64{{listTo(0, 7, 3), structTo(1, 1, 1), 9, 9, 9}}, compositeOf(0, 2, 1, 1, 1, 4)},
		{[][]uint64{{listTo(0, 7, 3), structTo(0, 1, 1), 9, 9, 9}}, compositeOf(0, 2, 0, 1, 1, 4)},
		{[][]uint64{{listTo(0, 7, 0), structTo(0, 65535, 65535)}}, compositeOf(0, 2, 0, 65535, 65535, 1)},
		// Elements without words are charged, one word each.
		{[][]uint64{{listTo(0, 7, 0), structTo(7, 0, 0)}}, compositeOf(0, 2, 7, 0, 0, 8)},
		{[][]uint64{{listTo(0, 7, 2), structTo(7, 0, 0), 9, 9}}, compositeOf(0, 2, 7, 0, 0, 10)},
		{[][]uint64{{listTo(0, 7, 0), structTo(api.MaxOffset, 0, 0)}}, compositeOf(0, 2, api.MaxOffset, 0, 0, 1<<29)},
		// The pointer is its own tag only if it is a struct pointer.
		{[][]uint64{{listTo(-1, 7, 0)}}, badTag},
	} {
		check(t, x.segs, 0, 0, x.want)
	}
}

func TestCompositeListsOutOfBounds(t *testing.T) {
	for count := range 6 {
		words := make([]uint64, 2+count)
		words[0], words[1] = listTo(0, 7, count), structTo(count, 1, 0)
		check(t, [][]uint64{words}, 0, 0, compositeOf(0, 2, count, 1, 0, count+1))
		check(t, [][]uint64{words[:len(words)-1]}, 0, 0, bounds)
		words[0] = listTo(1, 7, count)
		check(t, [][]uint64{words}, 0, 0, bounds)
		words[0] = listTo(-2, 7, count)
		check(t, [][]uint64{words}, 0, 0, bounds)
	}
	check(t, [][]uint64{{listTo(0, 7, 0)}}, 0, 0, bounds) // even an empty one has a tag
	check(t, [][]uint64{{listTo(0, 7, 0)}, {0}}, 0, 0, bounds)
	check(t, [][]uint64{{double(1, 0)}, {single(9, 0), listTo(0, 7, 0)}}, 0, 0, bounds)
	check(t, [][]uint64{{double(1, 0)}, {single(1, 1<<29-1), listTo(0, 7, api.MaxCount)}}, 0, 0, bounds)
}

// The bounds of the whole list are checked before its tag.
func TestBoundsComeBeforeTheTag(t *testing.T) {
	for _, tag := range []uint64{1, 2, 3, 6, 7, structTo(-1, 0, 0), structTo(9, 9, 9)} {
		check(t, [][]uint64{{listTo(0, 7, 1), tag}}, 0, 0, bounds)
		check(t, [][]uint64{{listTo(0, 7, 1), tag, 9}}, 0, 0, badTag)
	}
}

func TestTagsOfOtherKinds(t *testing.T) {
	for _, high := range []uint64{0, 1, 1 << 16, 0xffffffff} {
		for _, low := range []uint64{1, 2, 3, 5, 6, 7, 0xfffffffd, 0xfffffffe, 0xffffffff} {
			check(t, [][]uint64{{listTo(0, 7, 4), high<<32 | low, 9, 9, 9, 9}}, 0, 0, badTag)
			check(t, [][]uint64{{listTo(0, 7, 0), high<<32 | low}}, 0, 0, badTag)
		}
	}
}

func TestTagsWithANegativeOffset(t *testing.T) {
	for _, offset := range []int{-1, -2, -3, api.MinOffset + 1, api.MinOffset} {
		for _, sizes := range [][2]int{{0, 0}, {1, 0}, {0, 1}, {65535, 65535}} {
			tag := structTo(offset, sizes[0], sizes[1])
			check(t, [][]uint64{{listTo(0, 7, 0), tag}}, 0, 0, badTag)
			check(t, [][]uint64{{listTo(0, 7, 3), tag, 9, 9, 9}}, 0, 0, badTag)
		}
	}
}

func TestTagsOfMoreWordsThanTheListHas(t *testing.T) {
	for count := range 9 {
		words := make([]uint64, 2+count)
		words[0] = listTo(0, 7, count)
		for n := range 10 {
			for data := range 4 {
				for ptrs := range 4 {
					words[1] = structTo(n, data, ptrs)
					want := compositeOf(0, 2, n, data, ptrs, count+1)
					if n*(data+ptrs) > count {
						want = badTag
					} else if data+ptrs == 0 {
						want.o.Cost += n
					}
					check(t, [][]uint64{words}, 0, 0, want)
				}
			}
		}
	}
}

// Products that do not fit into 32 bits, some of which are small or 0 modulo 2^32.
func TestLargeTags(t *testing.T) {
	for _, x := range []struct{ n, data, ptrs int }{
		{api.MaxOffset, 65535, 65535}, {api.MaxOffset, 1, 0}, {api.MaxOffset, 0, 1}, {1 << 28, 16, 0}, {1 << 28, 8, 8},
		{1 << 16, 32768, 32768}, {1 << 17, 32768, 0}, {1 << 20, 4096, 0}, {1, 65535, 65535}, {1, 5, 0}, {1, 0, 5}, {5, 1, 0}, {5, 0, 1}, {3, 1, 1},
	} {
		check(t, [][]uint64{{listTo(0, 7, 4), structTo(x.n, x.data, x.ptrs), 9, 9, 9, 9}}, 0, 0, badTag)
	}
}

// P8.1: capabilities and reserved kinds.

func TestCapabilities(t *testing.T) {
	for _, index := range []uint64{0, 1, 7, 1 << 16, 1 << 31, 1<<32 - 1} {
		w := other(index, 0)
		check(t, [][]uint64{{w}}, 0, 0, capability)
		check(t, [][]uint64{{9, w, 9}, {9}}, 0, 1, capability)
		check(t, [][]uint64{{single(1, 0)}, {w}}, 0, 0, capability)
		check(t, [][]uint64{{double(1, 0)}, {single(0, 0), w}}, 0, 0, badFar)
	}
}

func TestReservedKinds(t *testing.T) {
	for bit := range 30 {
		for _, index := range []uint64{0, 1, 1<<32 - 1} {
			w := other(index, 1<<bit)
			check(t, [][]uint64{{w}}, 0, 0, badKind)
			check(t, [][]uint64{{single(1, 0)}, {w}}, 0, 0, badKind)
		}
	}
	check(t, [][]uint64{{math.MaxUint64}}, 0, 0, badKind)
}

// P8.1: errors of far pointers and positions that do not exist.

func TestErrorsOfFarPointersAreReturned(t *testing.T) {
	check(t, [][]uint64{{single(1, 0)}}, 0, 0, bounds)
	check(t, [][]uint64{{single(0, 1)}}, 0, 0, bounds)
	check(t, [][]uint64{{double(0, 0)}}, 0, 0, bounds)
	check(t, [][]uint64{{single(0, 0)}}, 0, 0, badFar)
	check(t, [][]uint64{{double(0, 0), 0}}, 0, 0, badFar)
	check(t, [][]uint64{{double(1, 0)}, {single(0, 0), structTo(1, 0, 0)}}, 0, 0, badFar)
	check(t, [][]uint64{{double(1, 0)}, {structTo(0, 1, 0), 0}}, 0, 0, badFar)
}

func TestPositionsThatDoNotExist(t *testing.T) {
	edges := []int{math.MinInt, math.MinInt + 1, -1 << 32, -2, -1, 0, 1, 2, 1 << 29, 1 << 32, 1<<32 + 1, math.MaxInt - 1, math.MaxInt}
	for _, segs := range [][][]uint64{nil, {nil}, {{0}}, {{structTo(0, 1, 0), 5}, {listTo(0, 7, 0), 0}}} {
		for _, seg := range edges {
			for _, at := range edges {
				check(t, segs, seg, at, expected(segs, seg, at))
			}
		}
	}
	check(t, nil, 0, 0, bounds)
	check(t, [][]uint64{{0}}, 0, 1, bounds)
	check(t, [][]uint64{{0}}, 1, 0, bounds)
	check(t, [][]uint64{{0}}, -1, 0, bounds)
	check(t, [][]uint64{{0}}, 0, -1, bounds)
}

func TestUnusedCapacityIsOutOfBounds(t *testing.T) {
	for _, w := range []uint64{structTo(0, 1, 0), structTo(0, 0, 1), listTo(0, api.ElemPointer, 1), listTo(0, api.ElemBit, 1), listTo(0, 7, 0)} {
		whole := []uint64{w, 0, 0}
		check(t, [][]uint64{whole[:1]}, 0, 0, bounds)
		check(t, [][]uint64{whole[:1]}, 0, 1, bounds)
	}
	whole := []uint64{listTo(0, 7, 1), structTo(1, 1, 0), 5}
	check(t, [][]uint64{whole[:2]}, 0, 0, bounds)
}

// P8.1: every message of few words of a choice with all cases, and random ones.

func TestEverySmallMessage(t *testing.T) {
	words := []uint64{
		0, structTo(-1, 0, 0), structTo(0, 1, 0), structTo(1, 0, 1), structTo(-2, 1, 1), structTo(2, 0, 0),
		listTo(0, api.ElemVoid, 2), listTo(0, api.ElemBit, 65), listTo(-2, api.ElemPointer, 2), listTo(1, api.ElemByte, 3),
		listTo(0, 7, 0), listTo(0, 7, 1), listTo(-2, 7, 1), listTo(-2, 7, 2), listTo(1, 7, 0),
		single(0, 1), single(1, 0), double(0, 1), double(1, 0), other(0, 0), other(0, 1),
	}
	for _, a := range words {
		for _, b := range words {
			for _, c := range words {
				checkEverywhere(t, [][]uint64{{a, b, c}})
				checkEverywhere(t, [][]uint64{{a}, {b, c}})
			}
		}
	}
}

func TestRandomMessages(t *testing.T) {
	source := rand.New(rand.NewSource(8))
	for range 6000 {
		checkEverywhere(t, randomMessage(source))
	}
}

func randomMessage(source *rand.Rand) [][]uint64 {
	segs := make([][]uint64, 1+source.Intn(3))
	for i := range segs {
		segs[i] = make([]uint64, source.Intn(7))
		for j := range segs[i] {
			segs[i][j] = someWord(source)
		}
	}
	return segs
}

// someWord returns a pointer to something near, most of the time, or any other word.
func someWord(source *rand.Rand) uint64 {
	offset := source.Intn(8) - 4
	switch source.Intn(10) {
	case 0:
		return source.Uint64()
	case 1:
		return other(source.Uint64()>>32, uint64(source.Intn(2)))
	case 2:
		return single(uint64(source.Intn(3)), uint64(source.Intn(7)))
	case 3:
		return double(uint64(source.Intn(3)), uint64(source.Intn(7)))
	case 4, 5:
		return listTo(offset, source.Intn(7), source.Intn(9))
	case 6, 7:
		return listTo(offset, 7, source.Intn(5))
	}
	return structTo(offset, source.Intn(3), source.Intn(3))
}

// P8.2: Element.

func TestElements(t *testing.T) {
	for _, x := range []struct {
		o    api.Object
		i    int
		want api.Object
	}{
		{compositeOf(0, 2, 3, 1, 1, 7).o, 0, structOf(0, 2, 1, 1, 0).o},
		{compositeOf(0, 2, 3, 1, 1, 7).o, 1, structOf(0, 4, 1, 1, 0).o},
		{compositeOf(0, 2, 3, 1, 1, 7).o, 2, structOf(0, 6, 1, 1, 0).o},
		{compositeOf(5, 9, 2, 2, 0, 5).o, 1, structOf(5, 11, 2, 0, 0).o},
		{compositeOf(5, 9, 2, 0, 3, 7).o, 1, structOf(5, 12, 0, 3, 0).o},
		{compositeOf(1, 2, api.MaxOffset, 0, 0, 1<<29).o, api.MaxOffset - 1, structOf(1, 2, 0, 0, 0).o},
		{compositeOf(1, 2, 4096, 65535, 65535, 1<<29).o, 4095, structOf(1, 2+4095*131070, 65535, 65535, 0).o},
	} {
		if got := resolve.Element(x.o, x.i); got != x.want {
			t.Errorf("Element(%+v, %d) = %+v, want %+v", x.o, x.i, got, x.want)
		}
	}
}

func TestElementsOfAMessage(t *testing.T) {
	segs := [][]uint64{{0}, {listTo(1, 7, 7), 9, structTo(2, 2, 1), 1, 2, 3, 4, 5, 6, 7}}
	o, err := resolve.Object(segs, 1, 0)
	if want := compositeOf(1, 3, 2, 2, 1, 8); (result{o, err}) != want {
		t.Fatalf("Object: %+v, %d", o, err)
	}
	for i, want := range []api.Object{structOf(1, 3, 2, 1, 0).o, structOf(1, 6, 2, 1, 0).o} {
		if got := resolve.Element(o, i); got != want {
			t.Errorf("element %d is %+v, want %+v", i, got, want)
		}
		if at, n := resolve.Pointers(resolve.Element(o, i)); at != want.At+2 || n != 1 {
			t.Errorf("element %d has %d pointers at %d", i, n, at)
		}
	}
}

// P8.2: Pointers.

func TestPointers(t *testing.T) {
	for _, x := range []struct {
		o     api.Object
		at, n int
	}{
		{api.Object{}, 0, 0},
		{structOf(0, 0, 0, 0, 0).o, 0, 0},
		{structOf(3, 7, 0, 0, 0).o, 0, 0},
		{structOf(3, 7, 2, 0, 2).o, 0, 0},
		{structOf(3, 7, 0, 2, 2).o, 7, 2},
		{structOf(3, 7, 5, 1, 6).o, 12, 1},
		{structOf(3, 7, 65535, 65535, 0).o, 65542, 65535},
		{listOf(3, 7, api.ElemPointer, 4, 4).o, 7, 4},
		{listOf(3, 0, api.ElemPointer, 1, 1).o, 0, 1},
		{listOf(3, 7, api.ElemPointer, api.MaxCount, api.MaxCount).o, 7, api.MaxCount},
		{listOf(3, 7, api.ElemPointer, 0, 0).o, 0, 0},
		{listOf(3, 7, api.ElemVoid, 4, 0).o, 0, 0},
		{listOf(3, 7, api.ElemBit, 4, 1).o, 0, 0},
		{listOf(3, 7, api.ElemByte, 4, 1).o, 0, 0},
		{listOf(3, 7, api.ElemTwo, 4, 1).o, 0, 0},
		{listOf(3, 7, api.ElemFour, 4, 2).o, 0, 0},
		{listOf(3, 7, api.ElemEight, 4, 4).o, 0, 0},
		{compositeOf(3, 7, 4, 1, 1, 9).o, 0, 0},
		{compositeOf(3, 7, 4, 0, 2, 9).o, 0, 0},
		{compositeOf(3, 7, 0, 0, 2, 1).o, 0, 0},
	} {
		if at, n := resolve.Pointers(x.o); at != x.at || n != x.n {
			t.Errorf("Pointers(%+v) = %d, %d, want %d, %d", x.o, at, n, x.at, x.n)
		}
	}
}

// The promises leave these arguments open, but the functions must not panic.
func TestOpenArguments(t *testing.T) {
	edges := []int{math.MinInt, -1, 0, 1, 6, 7, 99, math.MaxInt}
	for _, a := range edges {
		for _, b := range edges {
			o := api.Object{Kind: a, Seg: b, At: a, Data: b, Ptrs: a, Elem: b, N: a, Cost: b}
			for _, i := range edges {
				resolve.Element(o, i)
			}
			resolve.Pointers(o)
			resolve.Pointers(api.Object{Kind: api.NodeStruct, Data: a, Ptrs: b})
			resolve.Pointers(api.Object{Kind: api.NodeList, Elem: api.ElemPointer, At: a, N: b})
		}
	}
}

// P8.3

func TestObjectsLieInTheirSegments(t *testing.T) {
	source := rand.New(rand.NewSource(83))
	found := map[int]int{}
	for range 20000 {
		segs := randomMessage(source)
		for seg, words := range segs {
			for at := range words {
				o, err := resolve.Object(segs, seg, at)
				if err != api.OK || o.Kind == api.NodeNull {
					continue
				}
				found[o.Kind*8+o.Elem]++
				first, n := contents(o)
				if n > o.Cost || first < 0 || first+n > len(segs[o.Seg]) {
					t.Fatalf("Object(%#x, %d, %d) = %+v", segs, seg, at, o)
				}
				checkParts(t, segs, o)
			}
		}
	}
	if len(found) != 9 {
		t.Errorf("the messages have objects of %d kinds only", len(found))
	}
}

// contents returns the first word of an object, which is the tag of a composite list, and the number of its words.
func contents(o api.Object) (int, int) {
	switch {
	case o.Kind == api.NodeStruct:
		return o.At, o.Data + o.Ptrs
	case o.Elem == api.ElemComposite:
		return o.At - 1, 1 + o.N*(o.Data+o.Ptrs)
	}
	bits := []int{0, 1, 8, 16, 32, 64, 64}[o.Elem] * o.N
	return o.At, (bits + 63) / 64
}

// checkParts checks that the elements and the pointers of an object lie in it.
func checkParts(t *testing.T, segs [][]uint64, o api.Object) {
	t.Helper()
	if at, n := resolve.Pointers(o); n > 0 && (at < o.At || at+n > len(segs[o.Seg])) {
		t.Errorf("the pointers of %+v are %d at %d", o, n, at)
	}
	if o.Elem != api.ElemComposite {
		return
	}
	end := o.At
	for i := range min(o.N, 100) {
		e := resolve.Element(o, i)
		if e != (api.Object{Kind: api.NodeStruct, Seg: o.Seg, At: end, Data: o.Data, Ptrs: o.Ptrs}) {
			t.Errorf("element %d of %+v is %+v", i, o, e)
		}
		end += o.Data + o.Ptrs
		if end > len(segs[o.Seg]) {
			t.Errorf("element %d of %+v ends at %d", i, o, end)
		}
	}
}

// P8.4

func TestArgumentsAreNotModified(t *testing.T) {
	whole := []uint64{
		structTo(0, 1, 0), listTo(0, 7, 1), structTo(1, 1, 0), 5, // segment 0
		single(0, 0), double(1, 2), single(0, 3), listTo(0, api.ElemByte, 3), other(0, 0), // segment 1
		listTo(0, 7, 9), // unused
	}
	segs := [][]uint64{whole[:4], whole[4:9], whole[9:]}
	words, list := slices.Clone(whole), [][]uint64{slices.Clone(whole[:4]), slices.Clone(whole[4:9]), slices.Clone(whole[9:])}
	for seg := -1; seg <= 2; seg++ {
		for at := -1; at <= 6; at++ {
			resolve.Object(segs[:2], seg, at)
		}
	}
	if !slices.Equal(whole, words) {
		t.Errorf("words or unused capacity changed: %#x", whole)
	}
	if !slices.EqualFunc(segs, list, slices.Equal[[]uint64]) {
		t.Errorf("the list of segments changed: %#x", segs)
	}
}
