package canon_test

import (
	"encoding/binary"
	"fmt"
	"math"
	"math/rand"
	"slices"
	"testing"

	"capnp/api"
	"capnp/canon"
	"capnp/canonwrite"
	"capnp/denote"
	"capnp/node"
	"capnp/trim"
)

const (
	maxDepth  = 1000
	maxBudget = 1<<28 - 1
)

// ample are limits that no message of these tests exceeds unless it is meant to.
var ample = api.Limits{Depth: 100, Words: 1 << 24}

// structTo returns the word of a struct pointer.
func structTo(offset, data, ptrs int) uint64 {
	return uint64(ptrs)<<48 | uint64(data)<<32 | uint64(uint32(offset)<<2)
}

// listTo returns the word of a list pointer.
func listTo(offset, elem, count int) uint64 {
	return uint64(count)<<35 | uint64(elem)<<32 | uint64(uint32(offset)<<2) | 1
}

// single returns the word of a far pointer that is not double.
func single(seg, pad int) uint64 { return uint64(seg)<<32 | uint64(pad)<<3 | 2 }

// double returns the word of a double-far pointer.
func double(seg, pad int) uint64 { return uint64(seg)<<32 | uint64(pad)<<3 | 6 }

// Words of pointers: to a struct without words, and those that are an error at every position.
const (
	emptyStruct = 0x00000000fffffffc
	capability  = 3
	reserved    = 7
)

// message returns its arguments, as the segments of a message.
func message(segs ...[]uint64) [][]uint64 { return segs }

// words returns its arguments.
func words(list ...uint64) []uint64 { return list }

// structOf returns a struct with the given data words.
func structOf(data []uint64, kids ...api.Node) api.Node {
	n := api.Node{Kind: api.NodeStruct, Kids: kids}
	for _, w := range data {
		n.Data = binary.LittleEndian.AppendUint64(n.Data, w)
	}
	return n
}

// listOf returns a list of pointers or a composite list.
func listOf(elem int, kids ...api.Node) api.Node {
	return api.Node{Kind: api.NodeList, Elem: elem, N: len(kids), Kids: kids}
}

// hex writes words or segments, but no more than a few hundred characters.
func hex(x any) string { return fmt.Sprintf("%.400s", fmt.Sprintf("%x", x)) }

// check checks that want is the canonical form of a message under limits, and its consequences.
func check(t *testing.T, segs [][]uint64, l api.Limits, want ...uint64) {
	t.Helper()
	if got, err := canon.Words(segs, l); err != api.OK || !slices.Equal(got, want) {
		t.Fatalf("Words(%s, %+v) = %s, %d, want %s", hex(segs), l, hex(got), err, hex(want))
	}
	got, err := canon.Segments(segs, l)
	if err != api.OK || len(got) != 1 || !slices.Equal(got[0], want) {
		t.Fatalf("Segments(%s, %+v) = %s, %d, want the segment %s", hex(segs), l, hex(got), err, hex(want))
	}
	checkConsequences(t, segs, l, got)
}

// checkConsequences checks what P15.2 says of the canonical form of a message.
func checkConsequences(t *testing.T, segs [][]uint64, l api.Limits, form [][]uint64) {
	t.Helper()
	if cost, err := denote.Measure(segs, l); err != api.OK || len(form[0]) > 1+cost {
		t.Fatalf("%s, %+v: the cost is %d, %d, but the form has %d words", hex(segs), l, cost, err, len(form[0]))
	}
	before, _ := denote.Message(segs, l)
	if after, err := denote.Message(form, l); err != api.OK || !node.Equal(before, after) {
		t.Fatalf("%s, %+v: the form %s does not denote the same node: %d", hex(segs), l, hex(form), err)
	}
	if again, err := canon.Words(form, l); err != api.OK || !slices.Equal(again, form[0]) {
		t.Fatalf("%s, %+v: the form %s has the form %s, %d", hex(segs), l, hex(form), hex(again), err)
	}
}

// checkError checks that a message has no canonical form under limits.
func checkError(t *testing.T, segs [][]uint64, l api.Limits, want api.Errno) {
	t.Helper()
	if got, err := canon.Words(segs, l); err != want || got != nil {
		t.Fatalf("Words(%s, %+v) = %s, %d, want nil, %d", hex(segs), l, hex(got), err, want)
	}
	if got, err := canon.Segments(segs, l); err != want || got != nil {
		t.Fatalf("Segments(%s, %+v) = %s, %d, want nil, %d", hex(segs), l, hex(got), err, want)
	}
}

// checkExactly checks a message under the smallest limits with which it has a canonical form, and
// above and below them.
func checkExactly(t *testing.T, segs [][]uint64, depth, cost int, want ...uint64) {
	t.Helper()
	check(t, segs, api.Limits{Depth: depth, Words: cost}, want...)
	check(t, segs, api.Limits{Depth: maxDepth, Words: maxBudget}, want...)
	check(t, segs, api.Limits{Depth: depth, Words: maxBudget, Out: -1}, want...)
	if depth > 0 {
		checkError(t, segs, api.Limits{Depth: depth - 1, Words: maxBudget}, api.ErrDepth)
	}
	if cost > 0 {
		checkError(t, segs, api.Limits{Depth: maxDepth, Words: cost - 1}, api.ErrBudget)
	}
}

// checkDefinition checks a message against layers 12 and 14.
func checkDefinition(t *testing.T, segs [][]uint64, l api.Limits) api.Errno {
	t.Helper()
	n, err := denote.Message(segs, l)
	if err != api.OK {
		checkError(t, segs, l, err)
		return err
	}
	check(t, segs, l, canonwrite.Write(n)...)
	return api.OK
}

// A scatterer lays out a node as a message that is rarely canonical: each object is at a random
// place, often behind a landing pad, and often larger than it must be.
type scatterer struct {
	r    *rand.Rand
	segs [][]uint64
	cost int // of the objects
}

// A slot is a word of an object that becomes a pointer to a kid.
type slot struct {
	at  int
	kid api.Node
}

// scatter returns a message that denotes the trimmed form of n, and its cost.
func scatter(r *rand.Rand, n api.Node) ([][]uint64, int) {
	s := &scatterer{r: r, segs: make([][]uint64, 1+r.Intn(4))}
	s.segs[0] = words(0)
	s.point(0, 0, n)
	return s.segs, s.cost
}

// put appends words to a segment, sometimes behind one to which nothing refers, and returns their index.
func (s *scatterer) put(seg int, list ...uint64) int {
	if s.r.Intn(4) == 0 {
		s.segs[seg] = append(s.segs[seg], s.r.Uint64())
	}
	s.segs[seg] = append(s.segs[seg], list...)
	return len(s.segs[seg]) - len(list)
}

// point sets a pointer to n.
func (s *scatterer) point(seg, at int, n api.Node) {
	target, pad := s.r.Intn(len(s.segs)), s.r.Intn(len(s.segs))
	switch s.r.Intn(5) {
	case 0: // a landing pad before the object
		landing := s.put(target, 0)
		s.segs[seg][at] = single(target, landing)
		s.describe(target, landing, n)
	case 1: // a landing pad of two words
		start, w := s.place(target, n)
		s.segs[seg][at] = double(pad, s.put(pad, single(target, start), w))
	case 2: // a landing pad behind the object
		start, w := s.place(target, n)
		landing := s.put(target, 0)
		s.segs[target][landing] = moved(w, start-landing-1)
		s.segs[seg][at] = single(target, landing)
	default:
		s.describe(seg, at, n)
	}
}

// describe sets a pointer to n, which is placed in the same segment.
func (s *scatterer) describe(seg, at int, n api.Node) {
	start, w := s.place(seg, n)
	s.segs[seg][at] = moved(w, start-at-1)
}

// moved returns the pointer w with another Offset; null has none.
func moved(w uint64, offset int) uint64 {
	if w == 0 {
		return 0
	}
	return w | structTo(offset, 0, 0)
}

// place puts the object of n into a segment and returns its index and its pointer with Offset 0.
func (s *scatterer) place(seg int, n api.Node) (int, uint64) {
	if n.Kind == api.NodeNull {
		return 0, 0
	}
	list, w, slots := s.object(n)
	s.cost += len(list)
	start := s.put(seg, list...)
	for _, x := range slots {
		s.point(seg, start+x.at, x.kid)
	}
	return start, w
}

// object returns the words of the object of n, its pointer with Offset 0, and where its pointers are.
func (s *scatterer) object(n api.Node) ([]uint64, uint64, []slot) {
	switch {
	case n.Kind == api.NodeStruct:
		// At least one word: with Offset 0, the word of the pointer would be null.
		data, ptrs := 1+len(n.Data)/8+s.r.Intn(2), len(n.Kids)+s.r.Intn(2)
		return structure(n, data, ptrs), structTo(0, data, ptrs), slotsOf(n, data)
	case n.Elem == api.ElemComposite:
		return s.composite(n)
	case n.Elem == api.ElemPointer:
		return make([]uint64, n.N), listTo(0, n.Elem, n.N), slotsOf(n, 0)
	}
	return s.elements(n), listTo(0, n.Elem, n.N), nil
}

func (s *scatterer) composite(n api.Node) ([]uint64, uint64, []slot) {
	data, ptrs := trim.Uniform(n)
	data, ptrs = data+s.r.Intn(2), ptrs+s.r.Intn(2)
	if data+ptrs == 0 {
		s.cost += n.N
	}
	list, slots := words(structTo(n.N, data, ptrs)), []slot(nil)
	for _, element := range n.Kids {
		slots = append(slots, slotsOf(element, len(list)+data)...)
		list = append(list, structure(element, data, ptrs)...)
	}
	for range s.r.Intn(2) {
		list = append(list, s.r.Uint64()) // a word of no element
	}
	return list, listTo(0, n.Elem, len(list)-1), slots
}

// elements returns the words of a list that is neither of pointers nor composite, with random bits
// behind the last element.
func (s *scatterer) elements(n api.Node) []uint64 {
	b := append(slices.Clone(n.Data), make([]byte, (8-len(n.Data)%8)%8)...)
	for i := []int{0, 1, 8, 16, 32, 64}[n.Elem] * n.N; i < 8*len(b); i++ {
		b[i/8] |= byte(s.r.Intn(2) << (i % 8))
	}
	return wordsOf(b)
}

// structure returns the words of a struct that is extended to the given sizes, with null pointers.
func structure(n api.Node, data, ptrs int) []uint64 {
	return append(wordsOf(n.Data), make([]uint64, data+ptrs-len(n.Data)/8)...)
}

// slotsOf returns the slots of the kids of n, whose pointers begin at an index.
func slotsOf(n api.Node, first int) []slot {
	var slots []slot
	for i, kid := range n.Kids {
		slots = append(slots, slot{first + i, kid})
	}
	return slots
}

// wordsOf returns the words that b encodes.
func wordsOf(b []byte) []uint64 {
	list := make([]uint64, len(b)/8)
	for i := range list {
		list[i] = binary.LittleEndian.Uint64(b[8*i:])
	}
	return list
}

// random returns a well-formed node with a nesting of at most depth, often with trailing zeros.
func random(r *rand.Rand, depth int) api.Node {
	below := func() api.Node { return random(r, depth-1) }
	switch r.Intn(5) * min(depth, 1) {
	case 1:
		return randomStruct(r, depth)
	case 2:
		return listOf(api.ElemPointer, several(r, below)...)
	case 3:
		return listOf(api.ElemComposite, several(r, func() api.Node { return randomStruct(r, depth) })...)
	case 4:
		return randomElements(r)
	}
	return api.Node{}
}

func randomStruct(r *rand.Rand, depth int) api.Node {
	data := make([]uint64, r.Intn(4))
	for i := range data {
		data[i] = uint64(r.Intn(2) * r.Intn(1000))
	}
	return structOf(data, several(r, func() api.Node { return random(r, depth-1) })...)
}

func randomElements(r *rand.Rand) api.Node {
	n := api.Node{Kind: api.NodeList, Elem: r.Intn(6), N: r.Intn(40)}
	bits := []int{0, 1, 8, 16, 32, 64}[n.Elem] * n.N
	n.Data = make([]byte, (bits+7)/8)
	for i := range bits {
		n.Data[i/8] |= byte(r.Intn(4)/3) << (i % 8)
	}
	return n
}

// several returns up to four nodes.
func several(r *rand.Rand, one func() api.Node) []api.Node {
	nodes := make([]api.Node, r.Intn(5))
	for i := range nodes {
		nodes[i] = one()
	}
	return nodes
}

// randomMessage returns a message of words that are often pointers to objects in small segments.
func randomMessage(r *rand.Rand) [][]uint64 {
	segs := make([][]uint64, 1+r.Intn(3))
	for i := range segs {
		segs[i] = make([]uint64, r.Intn(10))
		for j := range segs[i] {
			offset := r.Intn(6) - 2
			choice := words(0, 0, structTo(offset, r.Intn(3), r.Intn(3)), structTo(offset, r.Intn(2), r.Intn(4)),
				listTo(offset, r.Intn(6), r.Intn(70)), listTo(offset, 6, r.Intn(4)), listTo(offset, 7, r.Intn(5)),
				single(r.Intn(len(segs)), r.Intn(8)), double(r.Intn(len(segs)), r.Intn(8)), uint64(4*r.Intn(8)+3), r.Uint64())
			segs[i][j] = choice[r.Intn(len(choice))]
		}
	}
	return segs
}

// P15.1: known forms.

// The example of the chapter.
func TestAFarPointerHasTheFormOfItsStruct(t *testing.T) {
	want := words(0x0001000100000000, 7, 0x0000000200000000, 0, 6)
	for _, segs := range [][][]uint64{
		message(want),
		message(words(structTo(2, 1, 1), 0, 6, 7, structTo(-4, 2, 0))),
		message(words(single(0, 1), structTo(1, 1, 1), 9, 7, structTo(0, 2, 0), 0, 6)),
		message(words(single(1, 0)), want),
		message(words(single(1, 2)), words(7, single(2, 1), structTo(-3, 1, 1)), words(9, structTo(0, 2, 0), 0, 6)),
		message(words(double(1, 0)), words(single(2, 0), structTo(0, 1, 1)), words(7, structTo(0, 2, 0), 0, 6)),
		message(words(double(1, 0)), words(single(2, 1), structTo(0, 1, 1), single(2, 3), structTo(0, 2, 0)), words(9, 7, double(1, 2), 0, 6)),
	} {
		checkExactly(t, segs, 2, 4, want...)
	}
}

func TestNull(t *testing.T) {
	for _, segs := range [][][]uint64{
		message(words(0)),
		message(words(0, capability), words(reserved)),
		message(nil),
		message(words(), words(capability)),
		message(words(single(1, 1)), words(9, 0)),
		message(words(double(1, 0)), words(single(9, 9), 0)),
	} {
		checkExactly(t, segs, 0, 0, 0)
		check(t, segs, api.Limits{Depth: -1, Words: -1}, 0)
		check(t, segs, api.Limits{Depth: math.MinInt, Words: math.MinInt}, 0)
	}
}

func TestKnownStructs(t *testing.T) {
	for _, x := range []struct {
		words       []uint64
		depth, cost int
		want        []uint64
	}{
		{words(emptyStruct), 1, 0, words(emptyStruct)},
		{words(structTo(1, 0, 0), 5), 1, 0, words(emptyStruct)},
		{words(structTo(0, 2, 2), 0, 0, 0, 0), 1, 4, words(emptyStruct)},
		{words(0x0000000100000000, 5), 1, 1, words(0x0000000100000000, 5)},
		{words(0x0000000200000000, 5, 0), 1, 2, words(0x0000000100000000, 5)},
		{words(structTo(2, 3, 0), 8, 9, 0, 5, 0, 9), 1, 3, words(structTo(0, 2, 0), 0, 5)},
		{words(structTo(0, 1, 1), 5, 0), 1, 2, words(structTo(0, 1, 0), 5)},
		{words(structTo(0, 0, 3), 0, structTo(1, 0, 0), 0), 2, 3, words(structTo(0, 0, 2), 0, emptyStruct)},
		// Kids in another order than their pointers.
		{words(structTo(0, 0, 2), structTo(3, 1, 0), structTo(0, 2, 0), 6, 7, 5), 2, 5,
			words(structTo(0, 0, 2), structTo(1, 1, 0), structTo(1, 2, 0), 5, 6, 7)},
		// An object with several pointers becomes several objects.
		{words(structTo(0, 0, 3), structTo(2, 1, 0), structTo(1, 1, 0), structTo(0, 2, 0), 5, 0), 2, 7,
			words(structTo(0, 0, 3), structTo(2, 1, 0), structTo(2, 1, 0), structTo(2, 1, 0), 5, 5, 5)},
		// Objects that overlap become separate ones.
		{words(structTo(-1, 1, 0)), 1, 1, words(structTo(0, 1, 0), structTo(-1, 1, 0))},
		{words(structTo(0, 1, 1), 5, structTo(-2, 2, 0)), 2, 4, words(structTo(0, 1, 1), 5, structTo(0, 2, 0), 5, structTo(-2, 2, 0))},
	} {
		checkExactly(t, message(x.words), x.depth, x.cost, x.want...)
	}
}

func TestKnownLists(t *testing.T) {
	const full = math.MaxUint64
	for _, x := range []struct {
		words       []uint64
		depth, cost int
		want        []uint64
	}{
		{words(listTo(1, 0, 3), 9), 1, 0, words(listTo(0, 0, 3))},
		{words(listTo(0, 0, api.MaxCount)), 1, 0, words(0xfffffff800000001)},
		{words(listTo(1, 6, 0), 9), 1, 0, words(listTo(0, 6, 0))},
		{words(listTo(0, 1, 9), full), 1, 1, words(0x0000004900000001, 0x1ff)},
		{words(listTo(1, 2, 3), 9, full, 9), 1, 1, words(0x0000001a00000001, 0xffffff)},
		{words(listTo(0, 3, 5), full, full), 1, 2, words(listTo(0, 3, 5), full, 0xffff)},
		{words(listTo(0, 4, 3), full, full), 1, 2, words(listTo(0, 4, 3), full, 0xffffffff)},
		// Trailing zeros of lists stay.
		{words(listTo(0, 5, 3), capability, 0, 0), 1, 3, words(listTo(0, 5, 3), capability, 0, 0)},
		{words(listTo(0, 6, 3), 0, structTo(2, 2, 0), 0, 9, 5, 0), 2, 5, words(listTo(0, 6, 3), 0, structTo(1, 1, 0), 0, 5)},
		// Composite lists have the size of their largest elements.
		{words(listTo(0, 7, 0), structTo(0, 3, 4)), 1, 1, words(0x0000000700000001, 0)},
		{words(listTo(0, 7, 0), structTo(3, 0, 0)), 1, 4, words(listTo(0, 7, 0), structTo(3, 0, 0))},
		{words(listTo(0, 7, 4), structTo(2, 1, 1), 0, 0, 0, 0), 1, 5, words(listTo(0, 7, 0), structTo(2, 0, 0))},
		{words(listTo(0, 7, 4), structTo(2, 2, 0), 5, 0, 0, 6), 1, 5, words(listTo(0, 7, 4), structTo(2, 2, 0), 5, 0, 0, 6)},
		{words(listTo(0, 7, 6), structTo(2, 2, 1), 5, 0, 0, 6, 0, 0), 1, 7, words(listTo(0, 7, 2), structTo(2, 1, 0), 5, 6)},
		{words(listTo(0, 7, 8), structTo(2, 2, 2), 1, 0, 0, structTo(4, 1, 0), 2, 0, 0, 0, 7), 2, 10,
			words(listTo(0, 7, 6), structTo(2, 1, 2), 1, 0, structTo(3, 1, 0), 2, 0, 0, 7)},
		// Words of no element are charged, but not written.
		{words(listTo(0, 7, 3), structTo(1, 1, 0), 5, capability, reserved), 1, 4, words(listTo(0, 7, 1), structTo(1, 1, 0), 5)},
	} {
		checkExactly(t, message(x.words), x.depth, x.cost, x.want...)
		checkExactly(t, message(words(single(1, 0)), x.words), x.depth, x.cost, x.want...)
	}
}

func TestTheLargestStruct(t *testing.T) {
	const size = 65535
	form := make([]uint64, 1+2*size)
	form[0] = structTo(0, size, size)
	checkExactly(t, message(form), 1, 2*size, emptyStruct)
	form[size], form[2*size] = 5, emptyStruct
	checkExactly(t, message(form), 2, 2*size, form...)
	checkExactly(t, message(words(double(1, 1)), words(capability, single(2, 0), form[0]), form[1:]), 2, 2*size, form...)
}

func TestLargeLists(t *testing.T) {
	const n = 1 << 18
	form := make([]uint64, 1+n)
	form[0] = listTo(0, 5, n)
	for i := range n {
		form[1+i] = uint64(i) << (i % 40)
	}
	check(t, message(form), ample, form...)
	check(t, message(words(single(1, 0)), append(words(listTo(1, 5, n), 9), form[1:]...)), ample, form...)
	kids, want := words(listTo(n, 6, n)), words(listTo(0, 6, n))
	for i := range n {
		// All pointers lead to the same word in front of them.
		kids = append(kids, uint64(i)+1)
		want = append(want, structTo(n-1, 1, 0))
	}
	for i := range n {
		kids = append(kids, structTo(-n-1, 1, 0))
		want = append(want, uint64(i)+1)
	}
	check(t, message(kids), ample, want...)
}

// P15.1: errors.

// Each message has a pointer with an error. It is checked as the root, and as the last pointer of
// other objects.
func TestErrors(t *testing.T) {
	for _, x := range []struct {
		segs [][]uint64
		want api.Errno
	}{
		{message(words(capability)), api.ErrCapability},
		{message(words(0x0000000500000003)), api.ErrCapability},
		{message(words(reserved)), api.ErrKind},
		{message(words(math.MaxUint64)), api.ErrKind},
		{message(words(structTo(0, 1, 0))), api.ErrBounds},
		{message(words(structTo(-100, 0, 0))), api.ErrBounds},
		{message(words(structTo(1, 0, 0))), api.ErrBounds},
		{message(words(listTo(0, 1, 65), 0)), api.ErrBounds},
		{message(words(listTo(0, 7, 0))), api.ErrBounds},
		{message(words(single(1, 0))), api.ErrBounds},
		{message(words(double(1, 0)), words(single(0, 0))), api.ErrBounds},
		{message(words(double(1, 0)), words(single(9, 0), structTo(0, 1, 0))), api.ErrBounds},
		{message(words(single(1, 0)), words(single(1, 0))), api.ErrFar},
		{message(words(double(1, 0)), words(0, structTo(0, 0, 0))), api.ErrFar},
		{message(words(double(1, 0)), words(single(0, 0), structTo(1, 0, 0))), api.ErrFar},
		{message(words(single(1, 0)), words(capability)), api.ErrCapability},
		{message(words(single(1, 0)), words(reserved)), api.ErrKind},
		{message(words(listTo(0, 7, 1), structTo(2, 1, 0), 0)), api.ErrTag},
		{message(words(listTo(0, 7, 1), structTo(-1, 1, 0), 0)), api.ErrTag},
		{message(words(listTo(0, 7, 1), listTo(1, 2, 0), 0)), api.ErrTag},
		{message(words(structTo(-1, 0, 1))), api.ErrDepth},
		{message(words(single(1, 0)), words(structTo(0, 0, 1), single(1, 0))), api.ErrDepth},
		{message(words(structTo(0, 0, 2), structTo(-2, 0, 2), structTo(-3, 0, 2))), api.ErrDepth},
	} {
		for _, before := range [][]uint64{nil, {structTo(0, 1, 2), 5, 0}, {listTo(0, 6, 2), emptyStruct}, {listTo(0, 7, 4), structTo(2, 1, 1), 5, 0, 5}} {
			segs := slices.Clone(x.segs)
			segs[0] = slices.Concat(before, segs[0])
			checkError(t, segs, ample, x.want)
		}
	}
}

func TestMessagesWithoutSegments(t *testing.T) {
	for _, l := range []api.Limits{{}, ample, {Depth: -1, Words: -1}} {
		checkError(t, nil, l, api.ErrBounds)
		checkError(t, message(), l, api.ErrBounds)
	}
}

func TestLimits(t *testing.T) {
	leaf, nested := message(words(structTo(0, 1, 0), 5)), message(words(structTo(0, 0, 1), structTo(0, 1, 0), 5))
	for _, x := range []struct {
		segs [][]uint64
		l    api.Limits
		want api.Errno
	}{
		{leaf, api.Limits{}, api.ErrDepth},
		{leaf, api.Limits{Depth: math.MinInt, Words: maxBudget}, api.ErrDepth},
		{leaf, api.Limits{Depth: 1}, api.ErrBudget},
		{leaf, api.Limits{Depth: 1, Words: -1}, api.ErrBudget},
		{leaf, api.Limits{Depth: 1, Words: math.MinInt}, api.ErrBudget},
		{nested, api.Limits{Depth: 1, Words: 1}, api.ErrDepth},
		{nested, api.Limits{Depth: 2, Words: 1}, api.ErrBudget},
		// Trimmed words are charged.
		{message(words(structTo(0, 1, 1), 5, 0)), api.Limits{Depth: 1, Words: 1}, api.ErrBudget},
		{message(words(listTo(0, 7, 0), structTo(1<<28-1, 0, 0))), api.Limits{Depth: 1, Words: maxBudget}, api.ErrBudget},
	} {
		checkError(t, x.segs, x.l, x.want)
	}
	// Objects without words and null pointers are not charged; the output limit is of no account.
	check(t, message(words(emptyStruct)), api.Limits{Depth: 1, Words: -1, Out: -1}, emptyStruct)
	check(t, message(words(listTo(0, 0, 7))), api.Limits{Depth: 1}, listTo(0, 0, 7))
	check(t, message(words(structTo(0, 0, 1), 0)), api.Limits{Depth: 1, Words: 1}, emptyStruct)
}

// The largest budget for which the functions are specified is used up by 127 pointers to a list,
// most of whose words belong to no element.
func TestTheLargestBudget(t *testing.T) {
	const pointers, size = 127, maxBudget/127 - 1
	seg := words(listTo(0, 6, pointers))
	want := words(listTo(0, 6, pointers))
	for i := range pointers {
		seg = append(seg, listTo(pointers-1-i, 7, size-1))
		want = append(want, listTo(pointers-1+i, 7, 1))
	}
	for range pointers {
		want = append(want, structTo(1, 1, 0), 5)
	}
	seg = append(append(seg, structTo(1, 1, 0), 5), make([]uint64, size-2)...)
	checkExactly(t, message(seg), 2, pointers+pointers*size, want...)
	if pointers+pointers*size != maxBudget {
		t.Errorf("the cost is %d", pointers+pointers*size)
	}
}

// P15.1 and P15.2: all of it, against known nodes and against layers 12 and 14.

func TestRandomNodes(t *testing.T) {
	r := rand.New(rand.NewSource(1))
	changed := 0
	for range 10000 {
		n := random(r, 1+r.Intn(4))
		segs, cost := scatter(r, n)
		want := canonwrite.Write(trim.Trim(n))
		checkExactly(t, segs, node.Depth(n), cost, want...)
		if len(want) > 20 && !slices.Equal(segs[0], want) {
			changed++
		}
	}
	if changed < 1000 {
		t.Errorf("only %d messages are large and not canonical", changed)
	}
}

func TestEverySmallMessage(t *testing.T) {
	choice := words(0, 5, capability, emptyStruct, structTo(0, 1, 0), structTo(0, 0, 1), structTo(0, 1, 1), structTo(-1, 0, 1),
		listTo(0, 1, 3), listTo(0, 6, 2), listTo(0, 7, 1), listTo(0, 7, 0), single(0, 1), single(1, 0), double(0, 1))
	limits := []api.Limits{{}, {Depth: 1}, {Depth: 1, Words: 2}, {Depth: 2, Words: 3}, {Depth: 5, Words: 1000}}
	for _, a := range choice {
		for _, b := range choice {
			for _, c := range choice {
				for _, l := range limits {
					checkDefinition(t, message(words(a, b, c)), l)
					checkDefinition(t, message(words(a), words(b, c)), l)
				}
			}
		}
	}
}

func TestRandomMessages(t *testing.T) {
	r := rand.New(rand.NewSource(2))
	outcomes := map[api.Errno]int{}
	for range 50000 {
		l := api.Limits{Depth: r.Intn(8), Words: r.Intn(1 << r.Intn(9))}
		outcomes[checkDefinition(t, randomMessage(r), l)]++
	}
	for err := api.OK; err <= api.ErrBudget; err++ {
		if err != api.ErrFrame && outcomes[err] < 100 {
			t.Errorf("only %d messages with the error %d", outcomes[err], err)
		}
	}
}

func TestChainsOfEveryKind(t *testing.T) {
	r := rand.New(rand.NewSource(3))
	wraps := []func(api.Node) api.Node{
		func(n api.Node) api.Node { return structOf(nil, n) },
		func(n api.Node) api.Node { return listOf(api.ElemPointer, n, api.Node{}) },
		func(n api.Node) api.Node {
			return listOf(api.ElemComposite, structOf(words(7)), structOf(nil, api.Node{}, n))
		},
	}
	// Chains of each kind, and one of all kinds by turns.
	for kind := range len(wraps) + 1 {
		n := structOf(words(5))
		for depth := 1; depth <= maxDepth; depth++ {
			if depth < 5 || depth > maxDepth-2 || depth%300 == 0 {
				segs, cost := scatter(r, n)
				checkExactly(t, segs, depth, cost, canonwrite.Write(n)...)
			}
			if kind < len(wraps) {
				n = wraps[kind](n)
			} else {
				n = wraps[depth%len(wraps)](n)
			}
		}
		segs, _ := scatter(r, n)
		checkError(t, segs, api.Limits{Depth: maxDepth, Words: maxBudget}, api.ErrDepth)
	}
}

// Each pointer leads to an object of its own in the form: the form of a few words may be large, but
// not larger than the budget.
func TestFormsAreAsLargeAsTheCost(t *testing.T) {
	// Each level has twice as many objects as the one above it.
	pairs := func(levels int) [][]uint64 {
		list := words(structTo(0, 0, 2))
		for range levels - 1 {
			list = append(list, structTo(1, 0, 2), structTo(0, 0, 2))
		}
		return message(append(list, structTo(1, 1, 0), structTo(0, 1, 0), 5))
	}
	const levels = 12
	cost := 3<<levels - 2
	form, err := canon.Words(pairs(levels), api.Limits{Depth: levels + 1, Words: cost})
	if err != api.OK || len(form) != 1+cost {
		t.Fatalf("%d words, %d", len(form), err)
	}
	checkExactly(t, pairs(levels), levels+1, cost, form...)
	for more := levels + 1; more < maxDepth; more += 99 {
		checkError(t, pairs(more), api.Limits{Depth: maxDepth, Words: cost}, api.ErrBudget)
	}
}

// P15.3

// layouts returns messages that all denote the same node.
func layouts(r *rand.Rand, n api.Node) [][][]uint64 {
	list := [][][]uint64{message(canonwrite.Write(trim.Trim(n)))}
	for range 5 {
		segs, _ := scatter(r, n)
		list = append(list, segs)
	}
	return list
}

// checkPair checks the forms of two messages. It returns whether they are equal, and whether both exist.
func checkPair(t *testing.T, a, b [][]uint64) (isEqual, ok bool) {
	t.Helper()
	l := api.Limits{Depth: 100, Words: 1 << 12}
	one, oneErr := denote.Message(a, l)
	other, otherErr := denote.Message(b, l)
	if oneErr != api.OK || otherErr != api.OK {
		return false, false
	}
	first, _ := canon.Words(a, l)
	second, _ := canon.Words(b, l)
	isEqual = slices.Equal(first, second)
	if isEqual != node.Equal(one, other) {
		t.Fatalf("%s and %s have the forms %s and %s", hex(a), hex(b), hex(first), hex(second))
	}
	return isEqual, true
}

func TestLayoutsOfANodeHaveTheSameForm(t *testing.T) {
	r := rand.New(rand.NewSource(4))
	for range 2000 {
		list := layouts(r, random(r, 4))
		for _, segs := range list[1:] {
			if isEqual, ok := checkPair(t, list[0], segs); !isEqual || !ok {
				t.Fatalf("%s and %s have different forms or none", hex(list[0]), hex(segs))
			}
		}
	}
}

func TestMessagesThatDifferInABit(t *testing.T) {
	r := rand.New(rand.NewSource(5))
	equal, different := 0, 0
	for range 2000 {
		segs, _ := scatter(r, random(r, 3))
		for range 20 {
			i := r.Intn(len(segs))
			if len(segs[i]) == 0 {
				continue
			}
			other := slices.Clone(segs)
			other[i] = slices.Clone(segs[i])
			other[i][r.Intn(len(segs[i]))] ^= 1 << r.Intn(64)
			if isEqual, ok := checkPair(t, segs, other); isEqual {
				equal++
			} else if ok {
				different++
			}
		}
	}
	if equal < 1000 || different < 1000 {
		t.Errorf("only %d equal and %d different pairs", equal, different)
	}
}

// Neither do two of many nodes have the same form nor do two forms belong to the same node.
func TestFormsAndNodesCorrespond(t *testing.T) {
	r := rand.New(rand.NewSource(6))
	nodes, forms, again := map[string]string{}, map[string]string{}, 0
	for range 100000 {
		segs := randomMessage(r)
		if r.Intn(2) == 0 {
			segs, _ = scatter(r, random(r, r.Intn(3)))
		}
		n, err := denote.Message(segs, ample)
		if err != api.OK {
			continue
		}
		list, _ := canon.Words(segs, ample)
		form, key := fmt.Sprint(list), fmt.Sprint(n)
		if _, ok := nodes[form]; ok {
			again++
		} else {
			nodes[form] = key
		}
		if _, ok := forms[key]; !ok {
			forms[key] = form
		}
		if nodes[form] != key || forms[key] != form {
			t.Fatalf("%s denotes %.400s and has the form %s", hex(segs), key, hex(list))
		}
	}
	if again < 10000 || len(forms) < 10000 {
		t.Errorf("only %d different forms, %d equal ones", len(forms), again)
	}
}

// P15.4

// spare returns a copy of a message in which each slice has unused capacity, which is not zero.
func spare(segs [][]uint64) [][]uint64 {
	list := make([][]uint64, 0, len(segs)+1)
	for _, seg := range segs {
		list = append(list, append(slices.Clone(seg), 0xa5a5, 0xa5a5)[:len(seg)])
	}
	return append(list, words(0xa5a5))[:len(segs)]
}

// memory writes all of a message, with its unused capacity.
func memory(segs [][]uint64) string {
	s := fmt.Sprint(len(segs))
	for _, seg := range segs[:cap(segs)] {
		s += fmt.Sprint(len(seg), seg[:cap(seg)])
	}
	return s
}

// scramble overwrites all of a message.
func scramble(segs [][]uint64) {
	for i, seg := range segs[:cap(segs)] {
		for j := range seg[:cap(seg)] {
			seg[:cap(seg)][j] += 0x5a5a
		}
		segs[:cap(segs)][i] = nil
	}
}

// A message that is canonical already is among the layouts.
func TestArgumentsAreNotModified(t *testing.T) {
	r := rand.New(rand.NewSource(7))
	for range 500 {
		for _, segs := range append(layouts(r, random(r, 4)), randomMessage(r), message(words(structTo(0, 0, 2), 0, capability)), message(nil, words(1)), nil) {
			segs = spare(segs)
			before := memory(segs)
			for _, l := range []api.Limits{ample, {Depth: 2, Words: 100}, {Depth: 100, Words: 5}} {
				form, _ := canon.Words(segs, l)
				list, _ := canon.Segments(segs, l)
				if memory(segs) != before {
					t.Fatalf("%s became %s", before, memory(segs))
				}
				scramble(message(form))
				scramble(list)
				if memory(segs) != before {
					t.Fatalf("%s shares memory with its form", before)
				}
			}
		}
	}
}

func TestResultsKeepTheirValues(t *testing.T) {
	r := rand.New(rand.NewSource(8))
	for range 500 {
		n := random(r, 4)
		want := canonwrite.Write(trim.Trim(n))
		for _, segs := range layouts(r, n) {
			first, _ := canon.Segments(segs, ample)
			second, _ := canon.Segments(segs, ample)
			form, _ := canon.Words(segs, ample)
			scramble(segs)
			scramble(second)
			if len(first) != 1 || !slices.Equal(first[0], want) || !slices.Equal(form, want) {
				t.Fatalf("%s became %s and %s", hex(want), hex(first), hex(form))
			}
			scramble(first)
			if !slices.Equal(form, want) {
				t.Fatalf("%s became %s", hex(want), hex(form))
			}
		}
	}
}

// Calls do not depend on those before them, in particular on those that end with an error.
func TestResultsDependOnArgumentsOnly(t *testing.T) {
	segs := message(words(structTo(0, 2, 1), 5, 0, listTo(0, 2, 1), 0x207))
	for range 3 {
		checkExactly(t, segs, 2, 4, structTo(0, 1, 1), 5, listTo(0, 2, 1), 7)
		checkError(t, message(words(structTo(-1, 0, 1))), ample, api.ErrDepth)
		checkError(t, nil, ample, api.ErrBounds)
	}
}

// P1: the promises leave larger limits open, but the functions terminate.
func TestLimitsThatAreLeftOpen(t *testing.T) {
	for _, segs := range [][][]uint64{
		message(words(listTo(0, 7, 0), structTo(api.MaxCount, 0, 0))),
		message(words(listTo(0, 7, 0), structTo(1<<28-1, 0, 0))),
		message(words(structTo(-1, 0, 1))),
		message(words(single(1, 0)), words(structTo(0, 0, 1), single(1, 0))),
	} {
		for _, budget := range []int{1 << 28, 1 << 40, math.MaxInt} {
			for _, depth := range []int{1, maxDepth + 1, math.MaxInt} {
				l := api.Limits{Depth: depth, Words: budget}
				form, err := canon.Words(segs, l)
				list, listErr := canon.Segments(segs, l)
				if form != nil || list != nil || err == api.OK || err != listErr {
					t.Errorf("%s, %+v: %s, %d and %s, %d", hex(segs), l, hex(form), err, hex(list), listErr)
				}
			}
		}
	}
	check(t, message(words(structTo(0, 2, 0), 5, 0)), api.Limits{Depth: 1, Words: maxBudget + 1}, structTo(0, 1, 0), 5)
	check(t, message(words(structTo(0, 2, 0), 5, 0)), api.Limits{Depth: math.MaxInt, Words: math.MaxInt}, structTo(0, 1, 0), 5)
}
