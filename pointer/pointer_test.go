package pointer_test

import (
	"math"
	"math/rand"
	"testing"

	"capnp/api"
	"capnp/pointer"
)

// decoded is the definition of the chapter, written with shifts.
func decoded(w uint64) api.Pointer {
	low := uint32(w)
	switch w & 3 {
	case api.PtrStruct:
		return api.Pointer{Kind: api.PtrStruct, Offset: int(int32(low) >> 2), Data: int(w >> 32 & 0xffff), Ptrs: int(w >> 48)}
	case api.PtrList:
		return api.Pointer{Kind: api.PtrList, Offset: int(int32(low) >> 2), Elem: int(w >> 32 & 7), Count: int(w >> 35)}
	case api.PtrFar:
		return api.Pointer{Kind: api.PtrFar, Double: low>>2&1 == 1, Pad: int(low >> 3), Seg: uint32(w >> 32)}
	}
	return api.Pointer{Kind: api.PtrOther, Low: low >> 2, Seg: uint32(w >> 32)}
}

// known are pointer words and their pointers, with the ends of the range of each field.
var known = []struct {
	w uint64
	p api.Pointer
}{
	{0, api.Pointer{}},
	{0x0001000200000004, api.Pointer{Kind: api.PtrStruct, Offset: 1, Data: 2, Ptrs: 1}},
	{0x00000000fffffffc, api.Pointer{Kind: api.PtrStruct, Offset: -1}},
	{0x000000007ffffffc, api.Pointer{Kind: api.PtrStruct, Offset: api.MaxOffset}},
	{0x0000000080000000, api.Pointer{Kind: api.PtrStruct, Offset: api.MinOffset}},
	{0x0000000100000000, api.Pointer{Kind: api.PtrStruct, Data: 1}},
	{0x0000ffff00000000, api.Pointer{Kind: api.PtrStruct, Data: 65535}},
	{0x0001000000000000, api.Pointer{Kind: api.PtrStruct, Ptrs: 1}},
	{0xffff000000000000, api.Pointer{Kind: api.PtrStruct, Ptrs: 65535}},
	{0xfffffffffffffffc, api.Pointer{Kind: api.PtrStruct, Offset: -1, Data: 65535, Ptrs: 65535}},
	{0xffffffff7ffffffc, api.Pointer{Kind: api.PtrStruct, Offset: api.MaxOffset, Data: 65535, Ptrs: 65535}},

	{0x0000000000000001, api.Pointer{Kind: api.PtrList}},
	{0x0000002a00000009, api.Pointer{Kind: api.PtrList, Offset: 2, Elem: api.ElemByte, Count: 5}},
	{0x00000000fffffffd, api.Pointer{Kind: api.PtrList, Offset: -1}},
	{0x000000007ffffffd, api.Pointer{Kind: api.PtrList, Offset: api.MaxOffset}},
	{0x0000000080000001, api.Pointer{Kind: api.PtrList, Offset: api.MinOffset}},
	{0x0000000700000001, api.Pointer{Kind: api.PtrList, Elem: api.ElemComposite}},
	{0x0000000800000001, api.Pointer{Kind: api.PtrList, Count: 1}},
	{0xfffffff800000001, api.Pointer{Kind: api.PtrList, Count: api.MaxCount}},
	{0xfffffffffffffffd, api.Pointer{Kind: api.PtrList, Offset: -1, Elem: api.ElemComposite, Count: api.MaxCount}},

	{0x0000000000000002, api.Pointer{Kind: api.PtrFar}},
	{0x0000000000000006, api.Pointer{Kind: api.PtrFar, Double: true}},
	{0x000000000000000a, api.Pointer{Kind: api.PtrFar, Pad: 1}},
	{0x00000000fffffffa, api.Pointer{Kind: api.PtrFar, Pad: 1<<29 - 1}},
	{0x0000000100000002, api.Pointer{Kind: api.PtrFar, Seg: 1}},
	{0xffffffff00000002, api.Pointer{Kind: api.PtrFar, Seg: math.MaxUint32}},
	{0xfffffffffffffffe, api.Pointer{Kind: api.PtrFar, Double: true, Pad: 1<<29 - 1, Seg: math.MaxUint32}},

	{0x0000000000000003, api.Pointer{Kind: api.PtrOther}},
	{0x0000000000000007, api.Pointer{Kind: api.PtrOther, Low: 1}},
	{0x00000000ffffffff, api.Pointer{Kind: api.PtrOther, Low: 1<<30 - 1}},
	{0x0000000100000003, api.Pointer{Kind: api.PtrOther, Seg: 1}},
	{0xffffffff00000003, api.Pointer{Kind: api.PtrOther, Seg: math.MaxUint32}},
	{0xffffffffffffffff, api.Pointer{Kind: api.PtrOther, Low: 1<<30 - 1, Seg: math.MaxUint32}},
}

// eachWord calls f for words of every kind, with every pair of other bits both set and both cleared, and for words that are the same in every run.
func eachWord(f func(w uint64)) {
	for kind := range uint64(4) {
		for i := 2; i < 64; i++ {
			for j := i; j < 64; j++ {
				bits := uint64(1)<<i | uint64(1)<<j
				f(kind | bits)
				f(kind | ^bits&^3)
			}
		}
	}
	source := rand.New(rand.NewSource(2))
	for range 20000 {
		f(source.Uint64())
	}
}

// checkInvalid checks that p is rejected, without a word.
func checkInvalid(t *testing.T, p api.Pointer) {
	t.Helper()
	if pointer.Valid(p) {
		t.Errorf("Valid(%+v) = true", p)
	}
	if w, ok := pointer.Encode(p); w != 0 || ok {
		t.Errorf("Encode(%+v) = %#x, %v", p, w, ok)
	}
}

// P2.1: ordinary inputs and the ends of the ranges.

func TestKnownPointers(t *testing.T) {
	for _, x := range known {
		if p := pointer.Decode(x.w); p != x.p {
			t.Errorf("Decode(%#x) = %+v, want %+v", x.w, p, x.p)
		}
		if !pointer.Valid(x.p) {
			t.Errorf("Valid(%+v) = false", x.p)
		}
		if w, ok := pointer.Encode(x.p); w != x.w || !ok {
			t.Errorf("Encode(%+v) = %#x, %v, want %#x", x.p, w, ok, x.w)
		}
	}
}

func TestEveryBitHasItsField(t *testing.T) {
	eachWord(func(w uint64) {
		if p, want := pointer.Decode(w), decoded(w); p != want {
			t.Fatalf("Decode(%#x) = %+v, want %+v", w, p, want)
		}
	})
}

// P2.1: invalid inputs.

func TestReservedKindsAreInvalid(t *testing.T) {
	// Those that are 0 in their low bits would pass for a struct pointer if they were cut off.
	for _, kind := range []int{-1, -2, -4, 4, 5, 6, 7, 8, 1 << 8, 1 << 16, 1 << 32, 1<<32 | 1, math.MinInt, math.MaxInt} {
		checkInvalid(t, api.Pointer{Kind: kind})
		checkInvalid(t, api.Pointer{Kind: kind, Offset: 1, Data: 2, Ptrs: 1})
		checkInvalid(t, api.Pointer{Kind: kind, Seg: 1})
	}
}

func TestFieldsOutOfTheirRangeAreInvalid(t *testing.T) {
	fields := []struct {
		kind     int
		min, max int
		set      func(p *api.Pointer, v int)
	}{
		{api.PtrStruct, api.MinOffset, api.MaxOffset, func(p *api.Pointer, v int) { p.Offset = v }},
		{api.PtrStruct, 0, 65535, func(p *api.Pointer, v int) { p.Data = v }},
		{api.PtrStruct, 0, 65535, func(p *api.Pointer, v int) { p.Ptrs = v }},
		{api.PtrList, api.MinOffset, api.MaxOffset, func(p *api.Pointer, v int) { p.Offset = v }},
		{api.PtrList, 0, 7, func(p *api.Pointer, v int) { p.Elem = v }},
		{api.PtrList, 0, api.MaxCount, func(p *api.Pointer, v int) { p.Count = v }},
		{api.PtrFar, 0, 1<<29 - 1, func(p *api.Pointer, v int) { p.Pad = v }},
		{api.PtrOther, 0, 1<<30 - 1, func(p *api.Pointer, v int) { p.Low = uint32(v) }},
	}
	for _, f := range fields {
		for _, v := range []int{f.min, f.min + 1, 0, f.max - 1, f.max} {
			p := api.Pointer{Kind: f.kind}
			f.set(&p, v)
			if w, ok := pointer.Encode(p); !ok || !pointer.Valid(p) || pointer.Decode(w) != p {
				t.Errorf("Encode(%+v) = %#x, %v", p, w, ok)
			}
		}
		outside := []int{f.min - 1, f.max + 1, f.max + 2, 2 * (f.max + 1)}
		if f.kind != api.PtrOther { // Low has 32 bits, which these values do not fit
			outside = append(outside, -1<<30, -1<<31, 1<<31, 1<<32, 1<<32+1, -1<<32, 1<<48, 1<<62, math.MinInt, math.MinInt+1, math.MaxInt)
		}
		for _, v := range outside {
			p := api.Pointer{Kind: f.kind}
			f.set(&p, v)
			checkInvalid(t, p)
		}
	}
}

func TestEveryHighBitOfLow(t *testing.T) {
	for _, low := range []uint32{1 << 30, 1 << 31, 3 << 30, math.MaxUint32, 1<<30 | 1} {
		checkInvalid(t, api.Pointer{Kind: api.PtrOther, Low: low})
		checkInvalid(t, api.Pointer{Kind: api.PtrOther, Low: low, Seg: 9})
	}
}

func TestFieldsOfOtherKindsAreInvalid(t *testing.T) {
	foreign := []struct {
		kinds []int
		set   func(p *api.Pointer, v int)
	}{
		{[]int{api.PtrFar, api.PtrOther}, func(p *api.Pointer, v int) { p.Offset = v }},
		{[]int{api.PtrList, api.PtrFar, api.PtrOther}, func(p *api.Pointer, v int) { p.Data = v }},
		{[]int{api.PtrList, api.PtrFar, api.PtrOther}, func(p *api.Pointer, v int) { p.Ptrs = v }},
		{[]int{api.PtrStruct, api.PtrFar, api.PtrOther}, func(p *api.Pointer, v int) { p.Elem = v }},
		{[]int{api.PtrStruct, api.PtrFar, api.PtrOther}, func(p *api.Pointer, v int) { p.Count = v }},
		{[]int{api.PtrStruct, api.PtrList, api.PtrOther}, func(p *api.Pointer, v int) { p.Double = v != 0 }},
		{[]int{api.PtrStruct, api.PtrList, api.PtrOther}, func(p *api.Pointer, v int) { p.Pad = v }},
		{[]int{api.PtrStruct, api.PtrList}, func(p *api.Pointer, v int) { p.Seg = uint32(v) }},
		{[]int{api.PtrStruct, api.PtrList, api.PtrFar}, func(p *api.Pointer, v int) { p.Low = uint32(v) }},
	}
	for _, f := range foreign {
		for _, kind := range f.kinds {
			for _, v := range []int{1, -1, 1 << 30} {
				p := api.Pointer{Kind: kind}
				f.set(&p, v)
				checkInvalid(t, p)
				for _, x := range known {
					if p := x.p; p.Kind == kind {
						f.set(&p, v)
						checkInvalid(t, p)
					}
				}
			}
		}
	}
}

// P2.2

func TestOnlyTheWordZeroIsNull(t *testing.T) {
	if !pointer.IsNull(0) {
		t.Error("IsNull(0) = false")
	}
	eachWord(func(w uint64) {
		if pointer.IsNull(w) != (w == 0) {
			t.Fatalf("IsNull(%#x) = %v", w, pointer.IsNull(w))
		}
	})
	for i := range 64 {
		if pointer.IsNull(1 << i) {
			t.Errorf("IsNull(%#x) = true", uint64(1)<<i)
		}
	}
}

func TestCapabilityPointers(t *testing.T) {
	for _, w := range []uint64{3, 0x100000003, 0x8000000000000003, 0xffffffff00000003} {
		if !pointer.IsCapability(pointer.Decode(w)) {
			t.Errorf("%#x is not a capability pointer", w)
		}
	}
	eachWord(func(w uint64) {
		want := w&0xffffffff == 3
		if got := pointer.IsCapability(pointer.Decode(w)); got != want {
			t.Fatalf("IsCapability of the pointer of %#x = %v", w, got)
		}
	})
}

// The promise names the kind and Low only, so that it holds for pointers that are not valid, too.
func TestCapabilityPointersNeedNotBeValid(t *testing.T) {
	for _, x := range []struct {
		p    api.Pointer
		want bool
	}{
		{api.Pointer{Kind: api.PtrOther, Offset: 1}, true},
		{api.Pointer{Kind: api.PtrOther, Double: true, Seg: 4}, true},
		{api.Pointer{Kind: api.PtrOther, Low: 1 << 30}, false},
		{api.Pointer{Kind: api.PtrOther, Low: 1 << 31}, false},
		{api.Pointer{Kind: 7}, false},
		{api.Pointer{Kind: -1}, false},
		{api.Pointer{Kind: api.PtrFar, Low: 1}, false},
	} {
		if got := pointer.IsCapability(x.p); got != x.want {
			t.Errorf("IsCapability(%+v) = %v", x.p, got)
		}
	}
}

// P2.3

func TestEveryWordIsTheEncodingOfItsPointer(t *testing.T) {
	check := func(w uint64) {
		p := pointer.Decode(w)
		if !pointer.Valid(p) {
			t.Fatalf("the pointer %+v of %#x is not valid", p, w)
		}
		if back, ok := pointer.Encode(p); back != w || !ok {
			t.Fatalf("%#x has the pointer %+v with the word %#x, %v", w, p, back, ok)
		}
	}
	check(0)
	eachWord(check)
}

func TestEveryValidPointerIsDecodedFromItsWord(t *testing.T) {
	words := map[uint64]api.Pointer{}
	check := func(p api.Pointer) {
		w, ok := pointer.Encode(p)
		if !ok || !pointer.Valid(p) || pointer.Decode(w) != p {
			t.Fatalf("Encode(%+v) = %#x, %v", p, w, ok)
		}
		if other, seen := words[w]; seen && other != p {
			t.Fatalf("%+v and %+v have the same word", p, other)
		}
		words[w] = p
	}
	offsets := []int{api.MinOffset, api.MinOffset + 1, -2, -1, 0, 1, 2, api.MaxOffset - 1, api.MaxOffset}
	sizes := []int{0, 1, 2, 255, 256, 32767, 32768, 65534, 65535}
	counts := []int{0, 1, 7, 8, 1 << 28, api.MaxCount - 1, api.MaxCount}
	segments := []uint32{0, 1, 511, 1 << 16, 1 << 31, math.MaxUint32}
	for _, offset := range offsets {
		for _, data := range sizes {
			for _, ptrs := range sizes {
				check(api.Pointer{Kind: api.PtrStruct, Offset: offset, Data: data, Ptrs: ptrs})
			}
		}
		for elem := range 8 {
			for _, count := range counts {
				check(api.Pointer{Kind: api.PtrList, Offset: offset, Elem: elem, Count: count})
			}
		}
	}
	for _, seg := range segments {
		for _, pad := range counts { // a landing pad has as many bits as a count
			check(api.Pointer{Kind: api.PtrFar, Pad: pad, Seg: seg})
			check(api.Pointer{Kind: api.PtrFar, Pad: pad, Seg: seg, Double: true})
		}
		for _, low := range []uint32{0, 1, 1 << 15, 1 << 29, 1<<30 - 1} {
			check(api.Pointer{Kind: api.PtrOther, Low: low, Seg: seg})
		}
	}
}
