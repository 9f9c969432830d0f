package denote_test

import (
	"fmt"
	"math"
	"math/rand"
	"slices"
	"strconv"
	"testing"

	"capnp/api"
	"capnp/denote"
	"capnp/far"
	"capnp/node"
	"capnp/resolve"
	"capnp/trim"
)

// maxDepth is the largest depth limit for which the functions are specified.
const maxDepth = 1000

// ample are limits that no message of these tests exceeds unless it refers to itself.
var ample = api.Limits{Depth: 100, Words: 1 << 40}

// structTo returns the word of a struct pointer.
func structTo(offset, data, ptrs int) uint64 {
	return uint64(ptrs)<<48 | uint64(data)<<32 | uint64(uint32(offset)<<2)
}

// listTo returns the word of a list pointer.
func listTo(offset, elem, count int) uint64 {
	return uint64(count)<<35 | uint64(elem)<<32 | uint64(uint32(offset)<<2) | 1
}

// single returns the word of a far pointer that is not double.
func single(seg, pad int) uint64 { return uint64(seg)<<32 | uint64(pad)<<3 | 2 }

// double returns the word of a double-far pointer.
func double(seg, pad int) uint64 { return uint64(seg)<<32 | uint64(pad)<<3 | 6 }

// Words of pointers that are an error at every position.
const (
	capability = 3
	reserved   = 7
	outside    = 0x00000001fffffe70 // a struct a hundred words before itself
	farOutside = 0x0000ffff00000002 // a landing pad in segment 65535
)

// structOf returns a struct.
func structOf(data []byte, kids ...api.Node) api.Node {
	return api.Node{Kind: api.NodeStruct, Data: data, Kids: kids}
}

// pointersTo returns a list of pointers.
func pointersTo(kids ...api.Node) api.Node {
	return api.Node{Kind: api.NodeList, Elem: api.ElemPointer, N: len(kids), Kids: kids}
}

// composite returns a composite list.
func composite(elements ...api.Node) api.Node {
	return api.Node{Kind: api.NodeList, Elem: api.ElemComposite, N: len(elements), Kids: elements}
}

// plain returns a list that is neither of pointers nor composite.
func plain(elem, n int, data ...byte) api.Node {
	return api.Node{Kind: api.NodeList, Elem: elem, N: n, Data: data}
}

var null = api.Node{}

// number returns the bytes of words with small values.
func number(words ...byte) []byte {
	var b []byte
	for _, w := range words {
		b = append(b, w, 0, 0, 0, 0, 0, 0, 0)
	}
	return b
}

// key writes all of n.
func key(n api.Node) string {
	s := "(" + strconv.Itoa(n.Kind) + " " + strconv.Itoa(n.Elem) + " " + strconv.Itoa(n.N) + " " + strconv.Quote(string(n.Data))
	for _, kid := range n.Kids {
		s += key(kid)
	}
	return s + ")"
}

// hex writes a message.
func hex(segs [][]uint64) string { return fmt.Sprintf("%x", segs) }

// check checks that the message denotes want, at a cost, under limits.
func check(t *testing.T, segs [][]uint64, l api.Limits, want api.Node, cost int) {
	t.Helper()
	checkBoth(t, segs, l, want, cost, api.OK)
}

// checkError checks that the message has no denotation under limits.
func checkError(t *testing.T, segs [][]uint64, l api.Limits, want api.Errno) {
	t.Helper()
	checkBoth(t, segs, l, null, 0, want)
}

// checkBoth checks both functions, with all that P12.3 says of their results.
func checkBoth(t *testing.T, segs [][]uint64, l api.Limits, want api.Node, cost int, wantErr api.Errno) {
	t.Helper()
	n, err := denote.Message(segs, l)
	if err != wantErr || !node.Equal(n, want) {
		t.Fatalf("Message(%.500s, %+v) = %.500s, %d, want %.500s, %d", hex(segs), l, key(n), err, key(want), wantErr)
	}
	used, err := denote.Measure(segs, l)
	if err != wantErr || used != cost {
		t.Fatalf("Measure(%.500s, %+v) = %d, %d, want %d, %d", hex(segs), l, used, err, cost, wantErr)
	}
	if !node.Valid(n) || !node.Equal(trim.Trim(n), n) {
		t.Fatalf("Message(%.500s, %+v) is not well-formed or not trimmed: %.500s", hex(segs), l, key(n))
	}
	if node.Depth(n) > max(0, l.Depth) || used < 0 || used > max(0, l.Words) {
		t.Fatalf("Message(%.500s, %+v): depth %d and cost %d exceed the limits", hex(segs), l, node.Depth(n), used)
	}
}

// checkExactly checks a message under the smallest limits with which it has a denotation, and below them.
func checkExactly(t *testing.T, segs [][]uint64, want api.Node, depth, cost int) {
	t.Helper()
	check(t, segs, api.Limits{Depth: depth, Words: cost}, want, cost)
	check(t, segs, api.Limits{Depth: depth + 1, Words: cost + 1}, want, cost)
	check(t, segs, api.Limits{Depth: depth, Words: math.MaxInt}, want, cost)
	check(t, segs, api.Limits{Depth: maxDepth, Words: cost}, want, cost)
	if depth > 0 {
		checkError(t, segs, api.Limits{Depth: depth - 1, Words: math.MaxInt}, api.ErrDepth)
	}
	if cost > 0 {
		checkError(t, segs, api.Limits{Depth: maxDepth, Words: cost - 1}, api.ErrBudget)
	}
}

// An oracle is the definition of the chapter, with errors that are returned.
type oracle struct {
	segs      [][]uint64
	l         api.Limits
	remaining int
}

// checkOracle checks the message against the definition.
func checkOracle(t *testing.T, segs [][]uint64, l api.Limits) {
	t.Helper()
	o := oracle{segs: segs, l: l, remaining: max(0, l.Words)}
	n, err := api.Node{}, api.ErrBounds
	if len(segs) > 0 {
		n, err = o.root()
	}
	if err != api.OK {
		checkError(t, segs, l, err)
		return
	}
	check(t, segs, l, trim.Trim(n), max(0, l.Words)-o.remaining)
}

func (o *oracle) root() (api.Node, api.Errno) {
	if len(o.segs[0]) == 0 {
		return api.Node{}, api.OK
	}
	return o.pointer(0, 0, 1)
}

func (o *oracle) pointer(seg, at, depth int) (api.Node, api.Errno) {
	w, _, _, err := far.Follow(o.segs, seg, at)
	if err != api.OK || w == 0 {
		return api.Node{}, err
	}
	if depth > o.l.Depth {
		return api.Node{}, api.ErrDepth
	}
	object, err := resolve.Object(o.segs, seg, at)
	if err != api.OK {
		return api.Node{}, err
	}
	if object.Cost > o.remaining {
		return api.Node{}, api.ErrBudget
	}
	o.remaining -= object.Cost
	n := api.Node{Kind: object.Kind, Elem: object.Elem, N: object.N}
	words := o.segs[object.Seg][object.At:]
	switch {
	case object.Kind == api.NodeStruct:
		return o.structure(object.Seg, object.At, object.Data, object.Ptrs, depth)
	case object.Elem == api.ElemPointer:
		n.Kids, err = o.pointers(object.Seg, object.At, object.N, depth)
	case object.Elem == api.ElemComposite:
		for i := range object.N {
			kid, err := o.structure(object.Seg, object.At+i*(object.Data+object.Ptrs), object.Data, object.Ptrs, depth)
			if err != api.OK {
				return api.Node{}, err
			}
			n.Kids = append(n.Kids, kid)
		}
	default:
		n.Data = elements(words, []int{0, 1, 8, 16, 32, 64}[object.Elem]*object.N)
	}
	return n, err
}

func (o *oracle) structure(seg, at, data, ptrs, depth int) (api.Node, api.Errno) {
	kids, err := o.pointers(seg, at+data, ptrs, depth)
	return structOf(elements(o.segs[seg][at:], 64*data), kids...), err
}

func (o *oracle) pointers(seg, at, n, depth int) ([]api.Node, api.Errno) {
	var kids []api.Node
	for i := range n {
		kid, err := o.pointer(seg, at+i, depth+1)
		if err != api.OK {
			return nil, err
		}
		kids = append(kids, kid)
	}
	return kids, api.OK
}

// elements returns the bytes of the first bits of words, one by one.
func elements(words []uint64, bits int) []byte {
	b := make([]byte, (bits+7)/8)
	for i := range bits {
		b[i/8] |= byte(words[i/64]>>(i%64)&1) << (i % 8)
	}
	return b
}

// A builder lays out a node as a message, with each object at a random place.
type builder struct {
	r    *rand.Rand
	segs [][]uint64
	cost int // of the objects
}

// build returns a message that denotes the trimmed form of n, and its cost.
func build(r *rand.Rand, n api.Node) ([][]uint64, int) {
	b := &builder{r: r, segs: make([][]uint64, 1+r.Intn(4))}
	b.extend(0, 1)
	b.point(n, 0, 0)
	return b.segs, b.cost
}

// extend adds n zero words to a segment, sometimes behind words that nothing refers to, and returns
// the index of the first one.
func (b *builder) extend(seg, n int) int {
	if len(b.segs[seg]) > 0 && b.r.Intn(3) == 0 {
		b.segs[seg] = append(b.segs[seg], b.r.Uint64())
	}
	at := len(b.segs[seg])
	b.segs[seg] = append(b.segs[seg], make([]uint64, n)...)
	return at
}

// point stores a pointer to n at a position.
func (b *builder) point(n api.Node, seg, at int) {
	target, pad := b.r.Intn(len(b.segs)), b.r.Intn(len(b.segs))
	isEmpty := n.Kind == api.NodeStruct && len(n.Data) == 0 && len(n.Kids) == 0
	switch way := b.r.Intn(4); {
	case n.Kind == api.NodeNull && way == 0:
		b.segs[seg][at] = single(target, b.extend(target, 1))
	case n.Kind == api.NodeNull && way == 1:
		landing := b.extend(pad, 2)
		b.segs[seg][at], b.segs[pad][landing] = double(pad, landing), single(1000, 1000)
	case n.Kind == api.NodeNull:
	case way == 0:
		landing := b.extend(target, 1)
		b.segs[seg][at] = single(target, landing)
		b.describe(n, target, landing, isEmpty)
	case way == 1 && !isEmpty:
		landing := b.extend(pad, 2)
		b.segs[seg][at] = double(pad, landing)
		w, start := b.place(n, target)
		b.segs[pad][landing], b.segs[pad][landing+1] = single(target, start), w
	case way == 2:
		w, start := b.place(n, target)
		landing := b.extend(target, 1)
		b.segs[seg][at], b.segs[target][landing] = single(target, landing), w|structTo(start-landing-1, 0, 0)
	default:
		b.describe(n, seg, at, isEmpty)
	}
}

// describe stores a pointer to n, which is placed in the same segment. An empty struct at Offset 0 would be null.
func (b *builder) describe(n api.Node, seg, at int, isEmpty bool) {
	if isEmpty {
		b.segs[seg][at] = structTo(-1, 0, 0)
		return
	}
	w, start := b.place(n, seg)
	b.segs[seg][at] = w | structTo(start-at-1, 0, 0)
}

// place stores the contents of n and returns the word of a pointer to them, with Offset 0, and where they begin.
func (b *builder) place(n api.Node, seg int) (uint64, int) {
	switch {
	case n.Kind == api.NodeStruct:
		data, ptrs := len(n.Data)/8, len(n.Kids)
		at := b.extend(seg, data+ptrs)
		b.fill(n, seg, at, at+data)
		b.cost += data + ptrs
		return structTo(0, data, ptrs), at
	case n.Elem == api.ElemComposite:
		return b.placeComposite(n, seg)
	case n.Elem == api.ElemPointer:
		at := b.extend(seg, n.N)
		b.fill(n, seg, at, at)
		b.cost += n.N
		return listTo(0, n.Elem, n.N), at
	}
	bits := []int{0, 1, 8, 16, 32, 64}[n.Elem] * n.N
	words := (bits + 63) / 64
	at := b.extend(seg, words)
	for i := bits; i < 64*words; i++ {
		b.segs[seg][at+i/64] |= b.r.Uint64() & 1 << (i % 64)
	}
	b.fill(n, seg, at, at)
	b.cost += words
	return listTo(0, n.Elem, n.N), at
}

func (b *builder) placeComposite(n api.Node, seg int) (uint64, int) {
	data, ptrs := trim.Uniform(n)
	data, ptrs = data+b.r.Intn(2), ptrs+b.r.Intn(2)
	count := n.N*(data+ptrs) + b.r.Intn(2)
	at := b.extend(seg, 1+count)
	b.segs[seg][at] = structTo(n.N, data, ptrs)
	for i, element := range n.Kids {
		start := at + 1 + i*(data+ptrs)
		b.fill(element, seg, start, start+data)
	}
	b.cost += 1 + count
	if data+ptrs == 0 {
		b.cost += n.N
	}
	return listTo(0, api.ElemComposite, count), at
}

// fill stores the bytes of n at one word index, and pointers to its kids at another one.
func (b *builder) fill(n api.Node, seg, data, kids int) {
	for i, v := range n.Data {
		b.segs[seg][data+i/8] |= uint64(v) << (i % 8 * 8)
	}
	for i, kid := range n.Kids {
		b.point(kid, seg, kids+i)
	}
}

// random returns a well-formed node with a nesting of at most depth, often with trailing zeros.
func random(r *rand.Rand, depth int) api.Node {
	kinds := 5
	if depth == 0 {
		kinds = 1
	}
	switch r.Intn(kinds) {
	case 1:
		return randomStruct(r, depth)
	case 2:
		return pointersTo(several(r, func() api.Node { return random(r, depth-1) })...)
	case 3:
		return composite(several(r, func() api.Node { return randomStruct(r, depth) })...)
	case 4:
		return randomPlain(r)
	}
	return null
}

func randomStruct(r *rand.Rand, depth int) api.Node {
	return structOf(sparse(r, 8*r.Intn(4)), several(r, func() api.Node { return random(r, depth-1) })...)
}

func randomPlain(r *rand.Rand) api.Node {
	elem, n := r.Intn(6), r.Intn(40)
	bits := []int{0, 1, 8, 16, 32, 64}[elem] * n
	b := sparse(r, (bits+7)/8)
	if bits%8 > 0 {
		b[len(b)-1] &= 1<<(bits%8) - 1
	}
	return plain(elem, n, b...)
}

// several returns up to four nodes.
func several(r *rand.Rand, one func() api.Node) []api.Node {
	var list []api.Node
	for range r.Intn(5) {
		list = append(list, one())
	}
	return list
}

// sparse returns n bytes, most of which are zero.
func sparse(r *rand.Rand, n int) []byte {
	b := make([]byte, n)
	for i := range b {
		if r.Intn(8) == 0 {
			b[i] = byte(r.Intn(256))
		}
	}
	return b
}

// P12.1: messages without words, null.

func TestMessagesWithoutSegments(t *testing.T) {
	for _, l := range []api.Limits{{}, ample, {Depth: -1, Words: -1}} {
		checkError(t, nil, l, api.ErrBounds)
		checkError(t, [][]uint64{}, l, api.ErrBounds)
	}
}

func TestAnEmptySegmentDenotesNull(t *testing.T) {
	for _, segs := range [][][]uint64{{{}}, {nil}, {nil, nil}, {{}, {capability}}, {{}, {structTo(0, 1, 0), 5}}} {
		checkExactly(t, segs, null, 0, 0)
		check(t, segs, api.Limits{Depth: -1, Words: -1}, null, 0)
		check(t, segs, api.Limits{Depth: math.MinInt, Words: math.MinInt}, null, 0)
	}
}

func TestNullPointers(t *testing.T) {
	for _, segs := range [][][]uint64{
		{{0}},
		{{0, capability}, {capability}},
		{{single(0, 1), 0}},
		{{single(1, 2)}, {9, 9, 0}},
		{{double(1, 0)}, {single(0, 0), 0}},
		{{double(1, 0)}, {single(9, 9), 0}},
	} {
		checkExactly(t, segs, null, 0, 0)
		check(t, segs, api.Limits{Depth: -1, Words: -1}, null, 0)
		check(t, segs, api.Limits{Depth: math.MinInt, Words: math.MinInt}, null, 0)
	}
}

// P12.1: structs.

func TestKnownStructs(t *testing.T) {
	leaf := structOf(number(5))
	for _, x := range []struct {
		segs        [][]uint64
		want        api.Node
		depth, cost int
	}{
		{[][]uint64{{0x00000000fffffffc}}, structOf(nil), 1, 0},
		{[][]uint64{{structTo(1, 0, 0), 5}}, structOf(nil), 1, 0},
		{[][]uint64{{0x0000000100000000, 5}}, leaf, 1, 1},
		{[][]uint64{{0x0000000200000000, 5, 0}}, leaf, 1, 2},
		{[][]uint64{{structTo(1, 1, 0), 9, 5, 9}}, leaf, 1, 1},
		{[][]uint64{{structTo(0, 3, 0), 0, 5, 0}}, structOf(number(0, 5)), 1, 3},
		{[][]uint64{{structTo(0, 3, 0), 0, 0, 0}}, structOf(nil), 1, 3},
		{[][]uint64{{structTo(0, 1, 0), 0x0807060504030201}}, structOf([]byte{1, 2, 3, 4, 5, 6, 7, 8}), 1, 1},
		{[][]uint64{{structTo(0, 2, 0), 1 << 63, 1 << 63}}, structOf([]byte{0, 0, 0, 0, 0, 0, 0, 128, 0, 0, 0, 0, 0, 0, 0, 128}), 1, 2},
		{[][]uint64{{structTo(0, 0, 3), 0, 0, 0}}, structOf(nil), 1, 3},
		{[][]uint64{{structTo(0, 1, 1), 0, 0}}, structOf(nil), 1, 2},
		{[][]uint64{{structTo(0, 0, 1), structTo(0, 1, 0), 5}}, structOf(nil, leaf), 2, 2},
		{[][]uint64{{structTo(0, 0, 3), 0, structTo(1, 1, 0), 0, 5}}, structOf(nil, null, leaf), 2, 4},
		{[][]uint64{{structTo(0, 0, 2), 0, structTo(-1, 0, 0)}}, structOf(nil, null, structOf(nil)), 2, 2},
		{[][]uint64{{structTo(0, 0, 2), structTo(1, 0, 1), 0, 0}}, structOf(nil, structOf(nil)), 2, 3},
		{[][]uint64{{structTo(0, 1, 1), 7, structTo(0, 2, 1), 0, 0, 0}}, structOf(number(7), structOf(nil)), 2, 5},
		{[][]uint64{{structTo(0, 1, 2), 7, structTo(1, 1, 0), structTo(1, 1, 0), 5, 6}}, structOf(number(7), leaf, structOf(number(6))), 2, 5},
		// The same object is charged at each of its pointers.
		{[][]uint64{{structTo(0, 0, 2), structTo(1, 1, 0), structTo(0, 1, 0), 5}}, structOf(nil, leaf, leaf), 2, 4},
		// Objects may overlap.
		{[][]uint64{{structTo(-1, 1, 0)}}, structOf([]byte{0xfc, 0xff, 0xff, 0xff, 1, 0, 0, 0}), 1, 1},
		{[][]uint64{{structTo(0, 2, 0), 5, structTo(-2, 1, 0)}}, structOf([]byte{5, 0, 0, 0, 0, 0, 0, 0, 0xf8, 0xff, 0xff, 0xff, 1, 0, 0, 0}), 1, 2},
	} {
		checkExactly(t, x.segs, x.want, x.depth, x.cost)
	}
}

func TestTheLargestStruct(t *testing.T) {
	words := make([]uint64, 1+2*65535, 2+2*65535)
	words[0] = structTo(0, 65535, 65535)
	checkExactly(t, [][]uint64{words}, structOf(nil), 1, 131070)
	words[65535] = 1
	words[2*65535] = structTo(0, 1, 0)
	words = append(words, 5)
	want := structOf(make([]byte, 8*65535), make([]api.Node, 65535)...)
	want.Data[8*65534] = 1
	want.Kids[65534] = structOf(number(5))
	checkExactly(t, [][]uint64{words}, want, 2, 131071)
}

// P12.1: lists.

func TestKnownLists(t *testing.T) {
	const full = math.MaxUint64
	for _, x := range []struct {
		words []uint64
		want  api.Node
		cost  int
	}{
		{[]uint64{1}, plain(api.ElemVoid, 0), 0},
		{[]uint64{listTo(0, api.ElemVoid, 3), 9}, plain(api.ElemVoid, 3), 0},
		{[]uint64{listTo(0, api.ElemVoid, api.MaxCount)}, plain(api.ElemVoid, api.MaxCount), 0},
		{[]uint64{listTo(0, api.ElemBit, 0)}, plain(api.ElemBit, 0), 0},
		{[]uint64{listTo(0, api.ElemBit, 1), full}, plain(api.ElemBit, 1, 1), 1},
		{[]uint64{listTo(0, api.ElemBit, 9), full}, plain(api.ElemBit, 9, 255, 1), 1},
		{[]uint64{listTo(0, api.ElemBit, 16), full}, plain(api.ElemBit, 16, 255, 255), 1},
		{[]uint64{listTo(0, api.ElemBit, 64), full, full}, plain(api.ElemBit, 64, 255, 255, 255, 255, 255, 255, 255, 255), 1},
		{[]uint64{listTo(0, api.ElemBit, 67), full, full}, plain(api.ElemBit, 67, 255, 255, 255, 255, 255, 255, 255, 255, 7), 2},
		{[]uint64{listTo(0, api.ElemByte, 3), 0x0807060504030201}, plain(api.ElemByte, 3, 1, 2, 3), 1},
		{[]uint64{listTo(1, api.ElemByte, 9), 7, 0x0807060504030201, full}, plain(api.ElemByte, 9, 1, 2, 3, 4, 5, 6, 7, 8, 255), 2},
		{[]uint64{listTo(0, api.ElemTwo, 3), 0x0807060504030201}, plain(api.ElemTwo, 3, 1, 2, 3, 4, 5, 6), 1},
		{[]uint64{listTo(0, api.ElemFour, 1), 0x0807060504030201}, plain(api.ElemFour, 1, 1, 2, 3, 4), 1},
		{[]uint64{listTo(0, api.ElemFour, 3), 0x0807060504030201, full}, plain(api.ElemFour, 3, 1, 2, 3, 4, 5, 6, 7, 8, 255, 255, 255, 255), 2},
		{[]uint64{listTo(0, api.ElemEight, 1), 0x0807060504030201, full}, plain(api.ElemEight, 1, 1, 2, 3, 4, 5, 6, 7, 8), 1},
		// Trailing zeros of lists stay.
		{[]uint64{listTo(0, api.ElemByte, 2), 0}, plain(api.ElemByte, 2, 0, 0), 1},
		{[]uint64{listTo(0, api.ElemEight, 2), 5, 0}, plain(api.ElemEight, 2, number(5, 0)...), 2},
		{[]uint64{listTo(0, api.ElemPointer, 0)}, pointersTo(), 0},
		{[]uint64{listTo(0, api.ElemPointer, 3), 0, 0, 0}, pointersTo(null, null, null), 3},
		// The elements of a list of words are no pointers.
		{[]uint64{listTo(0, api.ElemEight, 2), capability, reserved}, plain(api.ElemEight, 2, number(3, 7)...), 2},
	} {
		checkExactly(t, [][]uint64{x.words}, x.want, 1, x.cost)
	}
}

func TestListsOfEverySmallCount(t *testing.T) {
	r := rand.New(rand.NewSource(1))
	words := []uint64{0}
	for range 200 {
		words = append(words, r.Uint64())
	}
	for elem, size := range []int{0, 1, 8, 16, 32, 64} {
		for n := range 200 {
			words[0] = listTo(0, elem, n)
			used := (size*n + 63) / 64
			checkExactly(t, [][]uint64{words[:1+used]}, plain(elem, n, elements(words[1:], size*n)...), 1, used)
		}
	}
}

func TestListsOfPointers(t *testing.T) {
	leaf, zeros := structOf(number(5)), structTo(0, 2, 1)
	checkExactly(t, [][]uint64{{listTo(0, 6, 1), structTo(0, 1, 0), 5}}, pointersTo(leaf), 2, 2)
	checkExactly(t, [][]uint64{{listTo(0, 6, 3), 0, structTo(1, 1, 0), 0, 5}}, pointersTo(null, leaf, null), 2, 4)
	checkExactly(t, [][]uint64{{listTo(0, 6, 1), zeros, 0, 0, 0}}, pointersTo(structOf(nil)), 2, 4)
	checkExactly(t, [][]uint64{{listTo(0, 6, 2), structTo(-1, 0, 0), listTo(0, 6, 1), zeros, 5, 0, 0}}, pointersTo(structOf(nil), pointersTo(leaf)), 3, 6)
	checkExactly(t, [][]uint64{{listTo(0, 6, 2), structTo(1, 1, 0), listTo(0, 2, 2), 0x0201}},
		pointersTo(structOf([]byte{1, 2, 0, 0, 0, 0, 0, 0}), plain(api.ElemByte, 2, 1, 2)), 2, 4)
}

func TestCompositeLists(t *testing.T) {
	leaf, empty := structOf(number(5)), structOf(nil)
	for _, x := range []struct {
		words       []uint64
		want        api.Node
		depth, cost int
	}{
		{[]uint64{listTo(0, 7, 0), 0}, composite(), 1, 1},
		{[]uint64{listTo(0, 7, 0), structTo(0, 3, 4)}, composite(), 1, 1},
		{[]uint64{listTo(0, 7, 0), structTo(3, 0, 0)}, composite(empty, empty, empty), 1, 4},
		{[]uint64{listTo(0, 7, 1), structTo(1, 1, 0), 5}, composite(leaf), 1, 2},
		{[]uint64{listTo(1, 7, 1), 9, structTo(1, 1, 0), 5, 9}, composite(leaf), 1, 2},
		{[]uint64{listTo(0, 7, 3), structTo(3, 1, 0), 0, 5, 0}, composite(empty, leaf, empty), 1, 4},
		{[]uint64{listTo(0, 7, 4), structTo(2, 2, 0), 5, 0, 0, 5}, composite(leaf, structOf(number(0, 5))), 1, 5},
		{[]uint64{listTo(0, 7, 4), structTo(2, 0, 2), 0, 0, 0, 0}, composite(empty, empty), 1, 5},
		{[]uint64{listTo(0, 7, 4), structTo(2, 1, 1), 5, 0, 0, structTo(0, 1, 0), 5}, composite(leaf, structOf(nil, leaf)), 2, 6},
		{[]uint64{listTo(0, 7, 4), structTo(2, 0, 2), 0, structTo(2, 1, 0), structTo(1, 1, 0), 0, 5}, composite(structOf(nil, null, leaf), structOf(nil, leaf)), 2, 7},
		// Words that no element has are charged and not read.
		{[]uint64{listTo(0, 7, 3), structTo(1, 1, 0), 5, capability, reserved}, composite(leaf), 1, 4},
		{[]uint64{listTo(0, 7, 3), structTo(0, 1, 1), 5, capability, reserved}, composite(), 1, 4},
		{[]uint64{listTo(0, 7, 2), structTo(2, 0, 0), capability, reserved}, composite(empty, empty), 1, 5},
		// The pointers of the elements are one level deeper than the list.
		{[]uint64{listTo(0, 7, 1), structTo(1, 0, 1), listTo(0, 7, 1), structTo(1, 0, 1), listTo(0, 7, 1), structTo(1, 1, 0), 5},
			composite(structOf(nil, composite(structOf(nil, composite(leaf))))), 3, 6},
	} {
		checkExactly(t, [][]uint64{x.words}, x.want, x.depth, x.cost)
	}
}

func TestManyElementsWithoutWords(t *testing.T) {
	const n = 100000
	want := composite(make([]api.Node, n)...)
	for i := range want.Kids {
		want.Kids[i] = structOf(nil)
	}
	checkExactly(t, [][]uint64{{listTo(0, 7, 0), structTo(n, 0, 0)}}, want, 1, n+1)
}

// P12.1: far pointers.

func TestFarPointers(t *testing.T) {
	leaf := structOf(number(5))
	for _, segs := range [][][]uint64{
		{{single(0, 2), 5, structTo(-2, 1, 0)}},
		{{single(1, 0)}, {structTo(0, 1, 0), 5}},
		{{single(1, 1)}, {5, structTo(-2, 1, 0)}},
		{{single(2, 0), 7}, {7}, {structTo(1, 1, 0), 7, 5}},
		{{double(1, 0)}, {single(2, 1), structTo(0, 1, 0)}, {7, 5}},
		{{double(1, 1), 5}, {9, single(0, 1), structTo(0, 1, 0)}},
	} {
		checkExactly(t, segs, leaf, 1, 1)
	}
	// The contents count as those of the segment in which they are.
	checkExactly(t, [][]uint64{{structTo(0, 0, 2), single(1, 0), 0}, {structTo(1, 0, 1), 5, structTo(-2, 1, 0)}}, structOf(nil, structOf(nil, leaf)), 3, 4)
	checkExactly(t, [][]uint64{{double(1, 0)}, {single(2, 0), listTo(0, 6, 2)}, {0, structTo(0, 1, 0), 5}}, pointersTo(null, leaf), 2, 3)
	checkExactly(t, [][]uint64{{double(1, 0)}, {single(2, 0), listTo(0, 7, 2)}, {structTo(1, 1, 1), 5, structTo(0, 1, 0), 5}}, composite(structOf(number(5), leaf)), 2, 4)
	checkExactly(t, [][]uint64{{single(1, 0)}, {listTo(1, 2, 3), 9, 0x030201}}, plain(api.ElemByte, 3, 1, 2, 3), 1, 1)
}

// The functions are specified for every number of segments.
func TestManySegments(t *testing.T) {
	segs := make([][]uint64, 2000)
	segs[0] = []uint64{single(1999, 0)}
	segs[1999] = []uint64{structTo(0, 1, 0), 5}
	checkExactly(t, segs, structOf(number(5)), 1, 1)
}

// P12.1: errors.

// Each message has an erroneous root pointer. The same pointer is also checked behind other words,
// in each place where a pointer may be.
func TestErrorsOfPointers(t *testing.T) {
	holders := [][]uint64{
		nil,
		{structTo(0, 0, 1)},
		{structTo(0, 2, 2), 5, 5, 0},
		{listTo(0, 6, 2), 0},
		{listTo(0, 7, 4), structTo(2, 1, 1), 5, 0, 5},
		{structTo(0, 0, 1), listTo(0, 6, 1), listTo(0, 7, 1), structTo(1, 0, 1)},
	}
	for _, x := range []struct {
		segs [][]uint64
		want api.Errno
	}{
		{[][]uint64{{capability}}, api.ErrCapability},
		{[][]uint64{{0x0000000500000003}}, api.ErrCapability},
		{[][]uint64{{reserved}}, api.ErrKind},
		{[][]uint64{{math.MaxUint64}}, api.ErrKind},
		{[][]uint64{{outside}}, api.ErrBounds},
		{[][]uint64{{structTo(0, 1, 0)}}, api.ErrBounds},
		{[][]uint64{{structTo(0, 1, 1), 0}, {0}}, api.ErrBounds},
		{[][]uint64{{structTo(-100, 0, 0)}}, api.ErrBounds},
		{[][]uint64{{structTo(1, 0, 0)}}, api.ErrBounds},
		{[][]uint64{{listTo(0, api.ElemBit, 65), 0}}, api.ErrBounds},
		{[][]uint64{{listTo(0, api.ElemEight, api.MaxCount), 0}}, api.ErrBounds},
		{[][]uint64{{listTo(0, api.ElemPointer, 2), 0}}, api.ErrBounds},
		{[][]uint64{{listTo(0, api.ElemComposite, 0)}}, api.ErrBounds},
		{[][]uint64{{listTo(0, api.ElemComposite, 1), structTo(1, 1, 0)}}, api.ErrBounds},
		{[][]uint64{{listTo(0, api.ElemComposite, 1), structTo(2, 1, 0), 0}}, api.ErrTag},
		{[][]uint64{{listTo(0, api.ElemComposite, 1), structTo(-1, 1, 0), 0}}, api.ErrTag},
		{[][]uint64{{listTo(0, api.ElemComposite, 1), listTo(1, 2, 0), 0}}, api.ErrTag},
		{[][]uint64{{farOutside}}, api.ErrBounds},
		{[][]uint64{{single(1, 0)}}, api.ErrBounds},
		{[][]uint64{{single(1, 1)}, {0}}, api.ErrBounds},
		{[][]uint64{{double(1, 0)}, {single(0, 0)}}, api.ErrBounds},
		{[][]uint64{{single(1, 0)}, {single(1, 0)}}, api.ErrFar},
		{[][]uint64{{double(1, 0)}, {0, structTo(0, 0, 0)}}, api.ErrFar},
		{[][]uint64{{double(1, 0)}, {double(0, 0), structTo(0, 1, 0)}}, api.ErrFar},
		{[][]uint64{{double(1, 0)}, {single(0, 0), structTo(1, 0, 0)}}, api.ErrFar},
		{[][]uint64{{double(1, 0)}, {single(0, 0), capability}}, api.ErrFar},
		{[][]uint64{{double(1, 0)}, {single(9, 0), structTo(0, 1, 0)}}, api.ErrBounds},
		{[][]uint64{{single(1, 0)}, {capability}}, api.ErrCapability},
		{[][]uint64{{single(1, 0)}, {reserved}}, api.ErrKind},
	} {
		for _, holder := range holders {
			segs := slices.Clone(x.segs)
			segs[0] = slices.Concat(holder, segs[0])
			checkError(t, segs, ample, x.want)
		}
	}
}

// Null pointers, and errors of layer 7, come before the depth; errors of layer 8 come after it.
func TestDepthComesBetweenTheDescriptorAndTheObject(t *testing.T) {
	for depth := range 4 {
		l := api.Limits{Depth: depth, Words: 1000}
		// A chain of as many lists as may be entered.
		chain := func(last uint64, more ...uint64) []uint64 {
			var words []uint64
			for range depth {
				words = append(words, listTo(0, 6, 1))
			}
			return append(append(words, last), more...)
		}
		for _, w := range []uint64{capability, reserved, outside, structTo(0, 1, 0), structTo(-1, 0, 0), structTo(-1, 1, 0), listTo(0, 0, 0), listTo(-1, 7, 0)} {
			checkError(t, [][]uint64{chain(w)}, l, api.ErrDepth)
		}
		for pad, want := range map[uint64]api.Errno{
			capability: api.ErrDepth, reserved: api.ErrDepth, outside: api.ErrDepth, structTo(0, 0, 1): api.ErrDepth, single(1, 0): api.ErrFar, double(1, 0): api.ErrFar,
		} {
			checkError(t, [][]uint64{chain(single(1, 0)), {pad}}, l, want)
		}
		checkError(t, [][]uint64{chain(single(1, 0))}, l, api.ErrBounds)
		checkError(t, [][]uint64{chain(single(1, 1)), {0}}, l, api.ErrBounds)
		checkError(t, [][]uint64{chain(double(1, 0)), {single(0, 0)}}, l, api.ErrBounds)
		checkError(t, [][]uint64{chain(double(1, 0)), {0, 0}}, l, api.ErrFar)
		checkError(t, [][]uint64{chain(double(1, 0)), {single(0, 0), capability}}, l, api.ErrFar)
		checkError(t, [][]uint64{chain(double(1, 0)), {single(9, 9), structTo(0, 1, 0)}}, l, api.ErrDepth)
		want := null
		for range depth {
			want = pointersTo(want)
		}
		checkExactly(t, [][]uint64{chain(0)}, want, depth, depth)
		checkExactly(t, [][]uint64{chain(single(1, 0)), {0}}, want, depth, depth)
		checkExactly(t, [][]uint64{chain(double(1, 0)), {single(9, 9), 0}}, want, depth, depth)
	}
}

// Errors of layer 8 come before the budget.
func TestTheBudgetComesLast(t *testing.T) {
	for _, words := range []int{0, -1, math.MinInt} {
		l := api.Limits{Depth: 1, Words: words}
		checkError(t, [][]uint64{{structTo(0, 1, 0), 5}}, l, api.ErrBudget)
		checkError(t, [][]uint64{{structTo(0, 0, 1), 0}}, l, api.ErrBudget)
		checkError(t, [][]uint64{{listTo(0, 7, 0), 0}}, l, api.ErrBudget)
		checkError(t, [][]uint64{{structTo(0, 1, 0)}}, l, api.ErrBounds)
		checkError(t, [][]uint64{{listTo(0, 7, 1), 1, 0}}, l, api.ErrTag)
		checkError(t, [][]uint64{{capability}}, l, api.ErrCapability)
		checkError(t, [][]uint64{{reserved}}, l, api.ErrKind)
		checkError(t, [][]uint64{{single(0, 0)}}, l, api.ErrFar)
		checkError(t, [][]uint64{{structTo(0, 1, 0), 5}}, api.Limits{Words: words}, api.ErrDepth)
		check(t, [][]uint64{{structTo(-1, 0, 0)}}, l, structOf(nil), 0)
		check(t, [][]uint64{{listTo(0, 0, 7)}}, l, plain(api.ElemVoid, 7), 0)
		check(t, [][]uint64{{listTo(0, 6, 0)}}, l, pointersTo(), 0)
	}
}

// An object is charged before its pointers are traversed, and these one after the other.
func TestTheFirstErrorEndsTheTraversal(t *testing.T) {
	deep := []uint64{structTo(-1, 0, 1), structTo(-1, 0, 1)} // each refers to itself
	for _, x := range []struct {
		words []uint64
		l     api.Limits
		want  api.Errno
	}{
		{[]uint64{structTo(0, 0, 2), capability, reserved}, ample, api.ErrCapability},
		{[]uint64{structTo(0, 0, 2), reserved, capability}, ample, api.ErrKind},
		{[]uint64{structTo(0, 0, 3), 0, outside, capability}, ample, api.ErrBounds},
		{[]uint64{structTo(0, 0, 2), deep[0], capability}, ample, api.ErrDepth},
		{[]uint64{structTo(0, 0, 2), capability, deep[0]}, ample, api.ErrCapability},
		{[]uint64{listTo(0, 6, 3), 0, capability, reserved}, ample, api.ErrCapability},
		{[]uint64{listTo(0, 6, 2), deep[0], deep[1]}, ample, api.ErrDepth},
		{[]uint64{listTo(0, 6, 2), deep[0], deep[1]}, api.Limits{Depth: 100, Words: 50}, api.ErrBudget},
		{[]uint64{listTo(0, 7, 4), structTo(2, 0, 2), 0, reserved, capability, outside}, ample, api.ErrKind},
		{[]uint64{listTo(0, 7, 4), structTo(2, 1, 1), reserved, 0, capability, outside}, ample, api.ErrBounds},
		{[]uint64{structTo(0, 0, 2), structTo(1, 0, 1), reserved, capability}, ample, api.ErrCapability}, // the kid of the first one
		// The budget suffices for the root only, or not for it either.
		{[]uint64{structTo(0, 0, 2), structTo(1, 1, 0), capability, 5}, api.Limits{Depth: 9, Words: 2}, api.ErrBudget},
		{[]uint64{structTo(0, 0, 2), capability, structTo(0, 1, 0), 5}, api.Limits{Depth: 9, Words: 2}, api.ErrCapability},
		{[]uint64{structTo(0, 0, 2), capability, structTo(0, 1, 0), 5}, api.Limits{Depth: 9, Words: 1}, api.ErrBudget},
		{[]uint64{structTo(0, 0, 2), structTo(1, 1, 0), capability, 5}, api.Limits{Depth: 9, Words: 3}, api.ErrCapability},
		{[]uint64{structTo(0, 0, 2), structTo(1, 1, 0), structTo(0, 1, 0), 5}, api.Limits{Depth: 9, Words: 3}, api.ErrBudget},
		{[]uint64{listTo(0, 6, 1), capability}, api.Limits{Depth: 9}, api.ErrBudget},
		{[]uint64{listTo(0, 7, 1), structTo(1, 0, 1), capability}, api.Limits{Depth: 9, Words: 1}, api.ErrBudget},
		{[]uint64{listTo(0, 7, 1), structTo(1, 0, 1), capability}, api.Limits{Depth: 9, Words: 2}, api.ErrCapability},
	} {
		checkError(t, [][]uint64{x.words}, x.l, x.want)
	}
}

// A failed charge ends the traversal even if a later object would cost less.
func TestNothingFollowsAnExceededBudget(t *testing.T) {
	words := []uint64{structTo(0, 0, 2), structTo(1, 3, 0), structTo(-1, 0, 0), 1, 2, 3}
	checkExactly(t, [][]uint64{words}, structOf(nil, structOf(number(1, 2, 3)), structOf(nil)), 2, 5)
	for budget := range 5 {
		checkError(t, [][]uint64{words}, api.Limits{Depth: 2, Words: budget}, api.ErrBudget)
	}
}

// P12.1: depths.

func TestAnObjectThatRefersToItselfExceedsEveryDepth(t *testing.T) {
	for _, segs := range [][][]uint64{
		{{structTo(-1, 0, 1)}},
		{{structTo(0, 0, 1), structTo(-2, 0, 1)}},
		{{structTo(0, 1, 1), 5, structTo(-3, 0, 1)}},
		{{listTo(-1, 6, 1)}},
		{{single(1, 0)}, {structTo(-1, 0, 1)}},
		{{single(1, 0)}, {structTo(0, 0, 1), single(1, 0)}},
		{{double(1, 0)}, {single(0, 0), structTo(0, 0, 1)}},
		{{listTo(0, 7, 1), structTo(1, 0, 1), listTo(-2, 7, 1)}},
	} {
		for depth := -1; depth <= maxDepth; depth += 1 + depth/10 {
			checkError(t, segs, api.Limits{Depth: depth, Words: 10 * maxDepth}, api.ErrDepth)
		}
		checkError(t, segs, api.Limits{Depth: maxDepth, Words: math.MaxInt}, api.ErrDepth)
		checkError(t, segs, api.Limits{Depth: maxDepth, Words: 100}, api.ErrBudget)
		// The chapter leaves larger limits open; they must not exhaust the stack.
		checkError(t, segs, api.Limits{Depth: math.MaxInt, Words: math.MaxInt}, api.ErrDepth)
	}
}

func TestChainsOfEveryKind(t *testing.T) {
	wraps := map[string]func(int, api.Node) api.Node{
		"structs":    func(_ int, n api.Node) api.Node { return structOf(nil, n) },
		"lists":      func(_ int, n api.Node) api.Node { return pointersTo(n, null) },
		"composites": func(_ int, n api.Node) api.Node { return composite(structOf(nil, null, n)) },
	}
	wraps["all of them"] = func(i int, n api.Node) api.Node {
		return wraps[[]string{"structs", "composites", "lists"}[i%3]](i, n)
	}
	r := rand.New(rand.NewSource(2))
	for name, wrap := range wraps {
		n := structOf(number(5))
		for depth := 1; depth <= maxDepth; depth++ {
			if depth < 10 || depth > 998 || depth%200 == 0 {
				segs, cost := build(r, n)
				checkExactly(t, segs, n, depth, cost)
			}
			n = wrap(depth, n)
		}
		// Now the node has one level more than any limit allows.
		segs, _ := build(r, n)
		if _, err := denote.Message(segs, api.Limits{Depth: maxDepth, Words: math.MaxInt}); err != api.ErrDepth {
			t.Errorf("%s: %d", name, err)
		}
	}
}

// P12.1 and P12.2: all of it, against the definition and against known nodes.

func TestEverySmallMessage(t *testing.T) {
	choice := []uint64{
		0, 5, capability, structTo(-1, 0, 0), structTo(0, 1, 0), structTo(0, 0, 1), structTo(0, 1, 1), structTo(-1, 0, 1),
		listTo(0, api.ElemBit, 3), listTo(0, api.ElemPointer, 2), listTo(0, api.ElemComposite, 1), single(0, 1), single(1, 0), double(0, 1),
	}
	limits := []api.Limits{{}, {Depth: 1}, {Depth: 1, Words: 2}, {Depth: 2, Words: 3}, {Depth: 2, Words: 100}, {Depth: 3, Words: 4}, {Depth: 5, Words: 1000}}
	for _, a := range choice {
		for _, b := range choice {
			for _, c := range choice {
				for _, l := range limits {
					checkOracle(t, [][]uint64{{a, b, c}}, l)
					checkOracle(t, [][]uint64{{a}, {b, c}}, l)
				}
			}
		}
	}
}

func TestRandomMessages(t *testing.T) {
	r := rand.New(rand.NewSource(3))
	outcomes := map[api.Errno]int{}
	for range 100000 {
		segs := make([][]uint64, 1+r.Intn(3))
		for i := range segs {
			segs[i] = make([]uint64, 1+r.Intn(12))
			for j := range segs[i] {
				segs[i][j] = randomWord(r, len(segs))
			}
		}
		l := api.Limits{Depth: r.Intn(8), Words: r.Intn(1 << r.Intn(9))}
		checkOracle(t, segs, l)
		_, err := denote.Message(segs, l)
		outcomes[err]++
	}
	for err := api.OK; err <= api.ErrBudget; err++ {
		if err != api.ErrFrame && outcomes[err] < 100 {
			t.Errorf("only %d messages with the error %d", outcomes[err], err)
		}
	}
}

// randomWord returns a word that is often a pointer to an object in a small segment.
func randomWord(r *rand.Rand, segs int) uint64 {
	offset := r.Intn(6) - 2
	switch r.Intn(9) {
	case 0, 1:
		return structTo(offset, r.Intn(3), r.Intn(3))
	case 2:
		return listTo(offset, r.Intn(6), r.Intn(70))
	case 3:
		return listTo(offset, api.ElemPointer, r.Intn(4))
	case 4:
		return listTo(offset, api.ElemComposite, r.Intn(5))
	case 5:
		return single(r.Intn(segs), r.Intn(8))
	case 6:
		return double(r.Intn(segs), r.Intn(8))
	case 7:
		return []uint64{capability, reserved, r.Uint64()}[r.Intn(3)]
	}
	return 0
}

func TestRandomNodesInRandomLayouts(t *testing.T) {
	r := rand.New(rand.NewSource(4))
	for range 20000 {
		n := random(r, r.Intn(5))
		segs, cost := build(r, n)
		checkExactly(t, segs, trim.Trim(n), node.Depth(n), cost)
	}
}

// P12.2: costs of objects without words, and of values that would not fit into the memory.

func TestMeasureOfTheLargestCounts(t *testing.T) {
	empties := []uint64{listTo(0, 7, 0), structTo(api.MaxCount, 0, 0)}
	twice := append([]uint64{structTo(0, 0, 2), listTo(1, 7, 0), listTo(0, 7, 0)}, empties[1])
	for _, x := range []struct {
		words []uint64
		l     api.Limits
		cost  int
		err   api.Errno
	}{
		{[]uint64{listTo(0, 0, api.MaxCount)}, api.Limits{Depth: 1}, 0, api.OK},
		{empties, api.Limits{Depth: 1, Words: 1 << 29}, 1 << 29, api.OK},
		{empties, api.Limits{Depth: 1, Words: math.MaxInt}, 1 << 29, api.OK},
		{empties, api.Limits{Depth: 1, Words: 1<<29 - 1}, 0, api.ErrBudget},
		{empties, api.Limits{Words: 1 << 29}, 0, api.ErrDepth},
		{twice, api.Limits{Depth: 2, Words: 1<<30 + 2}, 1<<30 + 2, api.OK},
		{twice, api.Limits{Depth: 2, Words: 1<<30 + 1}, 0, api.ErrBudget},
	} {
		if cost, err := denote.Measure([][]uint64{x.words}, x.l); cost != x.cost || err != x.err {
			t.Errorf("Measure(%x, %+v) = %d, %d, want %d, %d", x.words, x.l, cost, err, x.cost, x.err)
		}
	}
}

// Each of 2^15 pointers refers, over 15 levels, to the same object.
func TestObjectsAreChargedOncePerPointer(t *testing.T) {
	const levels = 15
	words := []uint64{structTo(0, 0, 2)}
	for range levels - 1 {
		words = append(words, structTo(1, 0, 2), structTo(0, 0, 2))
	}
	words = append(words, structTo(1, 1, 0), structTo(0, 1, 0), 5)
	cost := 1 << levels
	for i := range levels {
		cost += 2 << i
	}
	want := structOf(number(5))
	for range levels {
		want = structOf(nil, want, want)
	}
	checkExactly(t, [][]uint64{words}, want, levels+1, cost)
}

// P12.3

func TestLargerLimitsDoNotChangeADenotation(t *testing.T) {
	r := rand.New(rand.NewSource(5))
	for range 3000 {
		segs := [][]uint64{make([]uint64, 1+r.Intn(8)), make([]uint64, r.Intn(5))}
		for _, seg := range segs {
			for i := range seg {
				seg[i] = randomWord(r, 2)
			}
		}
		for depth := range 4 {
			for words := range 8 {
				n, err := denote.Message(segs, api.Limits{Depth: depth, Words: words})
				if err != api.OK {
					continue
				}
				cost, _ := denote.Measure(segs, api.Limits{Depth: depth, Words: words})
				check(t, segs, api.Limits{Depth: depth + r.Intn(10), Words: words + r.Intn(100)}, n, cost)
				check(t, segs, api.Limits{Depth: maxDepth, Words: math.MaxInt}, n, cost)
				check(t, segs, api.Limits{Depth: node.Depth(n), Words: cost}, n, cost)
			}
		}
	}
}

// P12.4

// cloned returns a copy of a message in which each segment has unused capacity, which is not zero.
func cloned(segs [][]uint64) [][]uint64 {
	var list [][]uint64
	for _, seg := range segs {
		list = append(list, append(slices.Clone(seg), 0xa5a5, 0xa5a5)[:len(seg)])
	}
	return append(list, []uint64{0xa5a5})[:len(segs)]
}

// isSame reports whether two messages have the same words, also in their unused capacity.
func isSame(a, b [][]uint64) bool {
	for i := range len(a) + 1 {
		if x, y := a[:len(a)+1][i], b[:len(a)+1][i]; len(x) != len(y) {
			return false
		}
	}
	for i, seg := range a {
		if !slices.Equal(seg[:len(seg)+2], b[i][:len(seg)+2]) {
			return false
		}
	}
	return len(a) == len(b) && slices.Equal(a[:len(a)+1][len(a)], b[:len(b)+1][len(b)])
}

// scramble overwrites all that can be reached from n.
func scramble(n api.Node) {
	data, kids := n.Data[:cap(n.Data)], n.Kids[:cap(n.Kids)]
	for i := range data {
		data[i] ^= 0x5a
	}
	for i, kid := range kids {
		scramble(kid)
		kids[i] = api.Node{Kind: 99}
	}
}

func TestArgumentsAreNotModified(t *testing.T) {
	r := rand.New(rand.NewSource(6))
	for range 2000 {
		segs, cost := build(r, random(r, 4))
		if r.Intn(3) == 0 {
			segs[0] = append(segs[0], structTo(-1, 0, 2), capability)
		}
		before, segs := cloned(segs), cloned(segs)
		for _, l := range []api.Limits{ample, {Depth: 2, Words: 1000}, {Depth: 100, Words: cost / 2}} {
			n, _ := denote.Message(segs, l)
			denote.Measure(segs, l)
			scramble(n)
			if !isSame(segs, before) {
				t.Fatalf("%x became %x", before, segs)
			}
		}
	}
	segs := cloned([][]uint64{{}, {1}})
	denote.Message(segs, ample)
	denote.Measure(segs, ample)
	if !isSame(segs, cloned([][]uint64{{}, {1}})) {
		t.Errorf("an empty segment became %x", segs)
	}
}

func TestResultsDoNotShareMemoryWithArguments(t *testing.T) {
	r := rand.New(rand.NewSource(7))
	for range 2000 {
		segs, _ := build(r, random(r, 4))
		n, _ := denote.Message(segs, ample)
		before := key(n)
		for _, seg := range segs {
			for i := range seg {
				seg[i] = ^seg[i]
			}
		}
		if key(n) != before {
			t.Fatalf("%s became %s", before, key(n))
		}
	}
}

// The values of two pointers to the same object are separate.
func TestPartsOfResultsDoNotShareMemory(t *testing.T) {
	for _, object := range [][]uint64{
		{structTo(0, 2, 1), 5, 6, listTo(0, 2, 3), 0x030201},
		{listTo(0, 2, 9), 0x0807060504030201, 9},
		{listTo(0, 6, 1), structTo(0, 1, 0), 5},
		{listTo(0, 7, 2), structTo(1, 1, 1), 5, structTo(0, 1, 0), 5},
	} {
		kids := []uint64{single(1, 0), single(1, 0), single(1, 0)}
		for _, root := range []uint64{structTo(0, 0, 3), listTo(0, 6, 3)} {
			segs := [][]uint64{append([]uint64{root}, kids...), object}
			n, err := denote.Message(segs, ample)
			if err != api.OK || len(n.Kids) != 3 || !node.Equal(n.Kids[0], n.Kids[1]) || !node.Equal(n.Kids[0], n.Kids[2]) {
				t.Fatalf("%x: %s, %d", segs, key(n), err)
			}
			first, last := key(n.Kids[0]), key(n.Kids[2])
			scramble(n.Kids[1])
			if key(n.Kids[0]) != first || key(n.Kids[2]) != last {
				t.Errorf("%x: parts share memory", segs)
			}
		}
	}
}

// Calls do not depend on those before them, in particular on those that end with an error.
func TestResultsDependOnArgumentsOnly(t *testing.T) {
	segs := [][]uint64{{structTo(0, 1, 1), 5, listTo(0, 2, 1), 7}}
	want := structOf(number(5), plain(api.ElemByte, 1, 7))
	for range 3 {
		checkExactly(t, segs, want, 2, 3)
		checkError(t, [][]uint64{{structTo(-1, 0, 1)}}, ample, api.ErrDepth)
		checkError(t, nil, ample, api.ErrBounds)
	}
}
