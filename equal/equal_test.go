package equal_test

import (
	"encoding/binary"
	"fmt"
	"math"
	"math/bits"
	"math/rand"
	"slices"
	"testing"

	"capnp/api"
	"capnp/canon"
	"capnp/canonwrite"
	"capnp/denote"
	"capnp/equal"
	"capnp/node"
	"capnp/trim"
)

// maxDepth is the largest depth limit for which Messages is specified.
const maxDepth = 1000

// ample are limits that no message of these tests exceeds unless it is meant to.
var ample = api.Limits{Depth: 100, Words: 1 << 24}

// structTo returns the word of a struct pointer.
func structTo(offset, data, ptrs int) uint64 {
	return uint64(ptrs)<<48 | uint64(data)<<32 | uint64(uint32(offset)<<2)
}

// listTo returns the word of a list pointer.
func listTo(offset, elem, count int) uint64 {
	return uint64(count)<<35 | uint64(elem)<<32 | uint64(uint32(offset)<<2) | 1
}

// single returns the word of a far pointer that is not double.
func single(seg, pad int) uint64 { return uint64(seg)<<32 | uint64(pad)<<3 | 2 }

// double returns the word of a double-far pointer.
func double(seg, pad int) uint64 { return uint64(seg)<<32 | uint64(pad)<<3 | 6 }

// Words of pointers: to a struct without words, and those that are an error at every position.
const (
	emptyStruct = 0x00000000fffffffc
	capability  = 3
	reserved    = 7
)

// message returns its arguments, as the segments of a message.
func message(segs ...[]uint64) [][]uint64 { return segs }

// words returns its arguments.
func words(list ...uint64) []uint64 { return list }

// structOf returns a struct with the given data words.
func structOf(data []uint64, kids ...api.Node) api.Node {
	n := api.Node{Kind: api.NodeStruct, Kids: kids}
	for _, w := range data {
		n.Data = binary.LittleEndian.AppendUint64(n.Data, w)
	}
	return n
}

// listOf returns a list of pointers or a composite list.
func listOf(elem int, kids ...api.Node) api.Node {
	return api.Node{Kind: api.NodeList, Elem: elem, N: len(kids), Kids: kids}
}

// hex writes words or segments, but no more than a few hundred characters.
func hex(x any) string { return fmt.Sprintf("%.400s", fmt.Sprintf("%x", x)) }

// check checks that two messages with denotations are equal, or that they are not.
func check(t *testing.T, a, b [][]uint64, l api.Limits, want bool) {
	t.Helper()
	if got, err := equal.Messages(a, b, l); got != want || err != api.OK {
		t.Fatalf("Messages(%s, %s, %+v) = %t, %d, want %t", hex(a), hex(b), l, got, err, want)
	}
	if got, err := equal.Messages(b, a, l); got != want || err != api.OK {
		t.Fatalf("Messages(%s, %s, %+v) = %t, %d, want %t", hex(b), hex(a), l, got, err, want)
	}
}

// checkSelf checks that messages with denotations are equal to themselves, and to copies of themselves.
func checkSelf(t *testing.T, l api.Limits, messages ...[][]uint64) {
	t.Helper()
	for _, segs := range messages {
		check(t, segs, segs, l, true)
		check(t, segs, clone(segs), l, true)
	}
}

// checkError checks the error for two messages, of which at least one has no denotation.
func checkError(t *testing.T, a, b [][]uint64, l api.Limits, want api.Errno) {
	t.Helper()
	if got, err := equal.Messages(a, b, l); got || err != want {
		t.Fatalf("Messages(%s, %s, %+v) = %t, %d, want false, %d", hex(a), hex(b), l, got, err, want)
	}
}

// checkErrors checks the errors for two messages in both orders; OK stands for no error.
func checkErrors(t *testing.T, a, b [][]uint64, l api.Limits, errA, errB api.Errno) {
	t.Helper()
	first, second := errA, errB
	if errA == api.OK {
		first = errB
	}
	if errB == api.OK {
		second = errA
	}
	checkError(t, a, b, l, first)
	checkError(t, b, a, l, second)
}

// checkExactly checks two messages under the smallest limits with which both have a denotation, and
// above and below them.
func checkExactly(t *testing.T, a, b [][]uint64, depth, cost int, want bool) {
	t.Helper()
	check(t, a, b, api.Limits{Depth: depth, Words: cost}, want)
	check(t, a, b, api.Limits{Depth: maxDepth, Words: math.MaxInt}, want)
	check(t, a, b, api.Limits{Depth: depth, Words: math.MaxInt, Out: -1}, want)
	if depth > 0 {
		l := api.Limits{Depth: depth - 1, Words: math.MaxInt}
		checkError(t, a, b, l, api.ErrDepth)
		checkError(t, b, a, l, api.ErrDepth)
	}
	if cost > 0 {
		l := api.Limits{Depth: maxDepth, Words: cost - 1}
		checkError(t, a, b, l, api.ErrBudget)
		checkError(t, b, a, l, api.ErrBudget)
	}
}

// An outcome is what Messages returns for two messages.
type outcome struct {
	isEqual bool
	err     api.Errno
}

// checkDefinition checks two messages against their denotations, in both orders.
func checkDefinition(t *testing.T, a, b [][]uint64, l api.Limits) outcome {
	t.Helper()
	n, errA := denote.Message(a, l)
	other, errB := denote.Message(b, l)
	if errA != api.OK || errB != api.OK {
		checkErrors(t, a, b, l, errA, errB)
		return outcome{err: max(errA, errB)}
	}
	isEqual := node.Equal(n, other)
	check(t, a, b, l, isEqual)
	return outcome{isEqual: isEqual}
}

// clone returns a copy of a message.
func clone(segs [][]uint64) [][]uint64 {
	list := make([][]uint64, len(segs))
	for i, seg := range segs {
		list[i] = slices.Clone(seg)
	}
	return list
}

// A scatterer lays out a node as a message that is rarely canonical: each object is at a random
// place, often behind a landing pad, and often larger than it must be.
type scatterer struct {
	r    *rand.Rand
	segs [][]uint64
	cost int // of the objects
}

// A slot is a word of an object that becomes a pointer to a kid.
type slot struct {
	at  int
	kid api.Node
}

// scatter returns a message that denotes the trimmed form of n, and its cost.
func scatter(r *rand.Rand, n api.Node) ([][]uint64, int) {
	s := &scatterer{r: r, segs: make([][]uint64, 1+r.Intn(4))}
	s.segs[0] = words(0)
	s.point(0, 0, n)
	return s.segs, s.cost
}

// put appends words to a segment, sometimes behind one to which nothing refers, and returns their index.
func (s *scatterer) put(seg int, list ...uint64) int {
	if s.r.Intn(4) == 0 {
		s.segs[seg] = append(s.segs[seg], s.r.Uint64())
	}
	s.segs[seg] = append(s.segs[seg], list...)
	return len(s.segs[seg]) - len(list)
}

// point sets a pointer to n.
func (s *scatterer) point(seg, at int, n api.Node) {
	target, pad := s.r.Intn(len(s.segs)), s.r.Intn(len(s.segs))
	switch s.r.Intn(5) {
	case 0: // a landing pad before the object
		landing := s.put(target, 0)
		s.segs[seg][at] = single(target, landing)
		s.describe(target, landing, n)
	case 1: // a landing pad of two words
		start, w := s.place(target, n)
		s.segs[seg][at] = double(pad, s.put(pad, single(target, start), w))
	case 2: // a landing pad behind the object
		start, w := s.place(target, n)
		landing := s.put(target, 0)
		s.segs[target][landing] = moved(w, start-landing-1)
		s.segs[seg][at] = single(target, landing)
	default:
		s.describe(seg, at, n)
	}
}

// describe sets a pointer to n, which is placed in the same segment.
func (s *scatterer) describe(seg, at int, n api.Node) {
	start, w := s.place(seg, n)
	s.segs[seg][at] = moved(w, start-at-1)
}

// moved returns the pointer w with another Offset; null has none.
func moved(w uint64, offset int) uint64 {
	if w == 0 {
		return 0
	}
	return w | structTo(offset, 0, 0)
}

// place puts the object of n into a segment and returns its index and its pointer with Offset 0.
func (s *scatterer) place(seg int, n api.Node) (int, uint64) {
	if n.Kind == api.NodeNull {
		return 0, 0
	}
	list, w, slots := s.object(n)
	s.cost += len(list)
	start := s.put(seg, list...)
	for _, x := range slots {
		s.point(seg, start+x.at, x.kid)
	}
	return start, w
}

// object returns the words of the object of n, its pointer with Offset 0, and where its pointers are.
func (s *scatterer) object(n api.Node) ([]uint64, uint64, []slot) {
	switch {
	case n.Kind == api.NodeStruct:
		// At least one word: with Offset 0, the word of the pointer would be null.
		data, ptrs := 1+len(n.Data)/8+s.r.Intn(2), len(n.Kids)+s.r.Intn(2)
		return structure(n, data, ptrs), structTo(0, data, ptrs), slotsOf(n, data)
	case n.Elem == api.ElemComposite:
		return s.composite(n)
	case n.Elem == api.ElemPointer:
		return make([]uint64, n.N), listTo(0, n.Elem, n.N), slotsOf(n, 0)
	}
	return s.elements(n), listTo(0, n.Elem, n.N), nil
}

func (s *scatterer) composite(n api.Node) ([]uint64, uint64, []slot) {
	data, ptrs := trim.Uniform(n)
	data, ptrs = data+s.r.Intn(2), ptrs+s.r.Intn(2)
	if data+ptrs == 0 {
		s.cost += n.N
	}
	list, slots := words(structTo(n.N, data, ptrs)), []slot(nil)
	for _, element := range n.Kids {
		slots = append(slots, slotsOf(element, len(list)+data)...)
		list = append(list, structure(element, data, ptrs)...)
	}
	for range s.r.Intn(2) {
		list = append(list, s.r.Uint64()) // a word of no element
	}
	return list, listTo(0, n.Elem, len(list)-1), slots
}

// elements returns the words of a list that is neither of pointers nor composite, with random bits
// behind the last element.
func (s *scatterer) elements(n api.Node) []uint64 {
	b := append(slices.Clone(n.Data), make([]byte, (8-len(n.Data)%8)%8)...)
	for i := []int{0, 1, 8, 16, 32, 64}[n.Elem] * n.N; i < 8*len(b); i++ {
		b[i/8] |= byte(s.r.Intn(2) << (i % 8))
	}
	return wordsOf(b)
}

// structure returns the words of a struct that is extended to the given sizes, with null pointers.
func structure(n api.Node, data, ptrs int) []uint64 {
	return append(wordsOf(n.Data), make([]uint64, data+ptrs-len(n.Data)/8)...)
}

// slotsOf returns the slots of the kids of n, whose pointers begin at an index.
func slotsOf(n api.Node, first int) []slot {
	var slots []slot
	for i, kid := range n.Kids {
		slots = append(slots, slot{first + i, kid})
	}
	return slots
}

// wordsOf returns the words that b encodes.
func wordsOf(b []byte) []uint64 {
	list := make([]uint64, len(b)/8)
	for i := range list {
		list[i] = binary.LittleEndian.Uint64(b[8*i:])
	}
	return list
}

// random returns a well-formed node with a nesting of at most depth, often with trailing zeros.
func random(r *rand.Rand, depth int) api.Node {
	below := func() api.Node { return random(r, depth-1) }
	switch r.Intn(5) * min(depth, 1) {
	case 1:
		return randomStruct(r, depth)
	case 2:
		return listOf(api.ElemPointer, several(r, below)...)
	case 3:
		return listOf(api.ElemComposite, several(r, func() api.Node { return randomStruct(r, depth) })...)
	case 4:
		return randomElements(r)
	}
	return api.Node{}
}

func randomStruct(r *rand.Rand, depth int) api.Node {
	data := make([]uint64, r.Intn(4))
	for i := range data {
		data[i] = uint64(r.Intn(2) * r.Intn(1000))
	}
	return structOf(data, several(r, func() api.Node { return random(r, depth-1) })...)
}

func randomElements(r *rand.Rand) api.Node {
	n := api.Node{Kind: api.NodeList, Elem: r.Intn(6), N: r.Intn(40)}
	bits := []int{0, 1, 8, 16, 32, 64}[n.Elem] * n.N
	n.Data = make([]byte, (bits+7)/8)
	for i := range bits {
		n.Data[i/8] |= byte(r.Intn(4)/3) << (i % 8)
	}
	return n
}

// several returns up to four nodes.
func several(r *rand.Rand, one func() api.Node) []api.Node {
	nodes := make([]api.Node, r.Intn(5))
	for i := range nodes {
		nodes[i] = one()
	}
	return nodes
}

// randomMessage returns a message of words that are often pointers to objects in small segments.
func randomMessage(r *rand.Rand) [][]uint64 {
	segs := make([][]uint64, 1+r.Intn(3))
	for i := range segs {
		segs[i] = make([]uint64, r.Intn(10))
		for j := range segs[i] {
			offset := r.Intn(6) - 2
			choice := words(0, 0, structTo(offset, r.Intn(3), r.Intn(3)), structTo(offset, r.Intn(2), r.Intn(4)),
				listTo(offset, r.Intn(6), r.Intn(70)), listTo(offset, 6, r.Intn(4)), listTo(offset, 7, r.Intn(5)),
				single(r.Intn(len(segs)), r.Intn(8)), double(r.Intn(len(segs)), r.Intn(8)), uint64(4*r.Intn(8)+3), r.Uint64())
			segs[i][j] = choice[r.Intn(len(choice))]
		}
	}
	return segs
}

// P17.1

// checkData checks Data for two lists, in both orders.
func checkData(t *testing.T, a, b []uint64, want bool) {
	t.Helper()
	if equal.Data(a, b) != want || equal.Data(b, a) != want {
		t.Fatalf("Data(%s, %s) = %t, %t in the other order, want %t", hex(a), hex(b), equal.Data(a, b), equal.Data(b, a), want)
	}
}

func TestKnownData(t *testing.T) {
	for _, x := range []struct {
		a, b []uint64
		want bool
	}{
		{nil, nil, true},
		{nil, words(), true},
		{nil, words(0), true},
		{words(), words(0, 0, 0), true},
		{nil, words(1), false},
		{nil, words(0, 1<<63), false},
		{words(0), words(0, 0), true},
		{words(5), words(5), true},
		{words(5), words(5, 0, 0), true},
		{words(5, 0), words(5, 0, 0), true},
		{words(5), words(0, 5), false},
		{words(5), words(5, 0, 5), false},
		{words(5, 0, 6), words(5, 0, 6, 0), true},
		{words(5, 0, 6), words(5, 6), false},
		{words(5, 6), words(6, 5), false},
		{words(5, 6), words(5, 6, 1), false},
		{words(1 << 32), words(0), false},
		{words(math.MaxUint64), words(math.MaxUint64, 0), true},
		{words(math.MaxUint64), words(math.MaxUint32), false},
	} {
		checkData(t, x.a, x.b, x.want)
	}
}

// extended returns a list of words, extended by zero words to a length.
func extended(list []uint64, n int) []uint64 {
	return append(slices.Clone(list), make([]uint64, n-len(list))...)
}

func TestDataOfEverySmallPair(t *testing.T) {
	lists := [][]uint64{nil}
	for i := 0; i < len(lists); i++ {
		for _, w := range words(0, 1, 1<<63) {
			if len(lists[i]) < 4 {
				lists = append(lists, append(slices.Clone(lists[i]), w))
			}
		}
	}
	for _, a := range lists {
		for _, b := range lists {
			n := max(len(a), len(b))
			checkData(t, a, b, slices.Equal(extended(a, n), extended(b, n)))
		}
	}
}

func TestDataThatDifferInABit(t *testing.T) {
	list := words(5, 0, math.MaxUint64, 1<<40, 0)
	for i := range list {
		for bit := range 64 {
			other := slices.Clone(list)
			other[i] ^= 1 << bit
			checkData(t, list, other, false)
			checkData(t, append(slices.Clone(list), 0, 0), other, false)
			checkData(t, make([]uint64, i), append(make([]uint64, i), 1<<bit), false)
		}
	}
}

func TestLongData(t *testing.T) {
	const n = 1 << 20
	for _, list := range [][]uint64{nil, {5}, slices.Repeat(words(5), n-1)} {
		checkData(t, list, extended(list, n), true)
		other := extended(list, n)
		other[n-1] = 1
		checkData(t, list, other, false)
		checkData(t, other, slices.Clone(other), true)
	}
}

// P17.2 and P17.3: known messages.

// classes returns messages: those of a class are equal, and those of different classes are not.
func classes() [][][][]uint64 {
	return slices.Concat(structs(), plainLists(), listsOfPointers(), composites())
}

// structs returns classes of messages, the first of which is that of null.
func structs() [][][][]uint64 {
	return [][][][]uint64{
		{
			message(words(0)), message(nil), message(words(), words(capability)), message(words(0, capability)),
			message(words(single(1, 1)), words(9, 0)), message(words(double(1, 0)), words(single(9, 9), 0)),
		}, {
			message(words(emptyStruct)), message(words(structTo(1, 0, 0), 5)), message(words(structTo(0, 1, 0), 0)),
			message(words(structTo(0, 0, 1), 0)), message(words(structTo(0, 2, 3), 0, 0, 0, 0, 0)),
			message(words(structTo(0, 0, 2), single(1, 0), 0), words(0)), message(words(single(1, 0)), words(emptyStruct)),
			message(words(double(1, 0)), words(single(1, 2), structTo(0, 1, 0), 0)),
		}, {
			message(words(structTo(0, 1, 0), 5)), message(words(structTo(0, 2, 0), 5, 0)), message(words(structTo(0, 1, 2), 5, 0, 0)),
			message(words(structTo(1, 1, 0), 7, 5)), message(words(structTo(0, 1, 1), 5, single(1, 0)), words(0)),
			message(words(single(1, 1)), words(5, structTo(-2, 1, 0))), message(words(double(1, 0)), words(single(2, 1), structTo(0, 2, 0)), words(9, 5, 0)),
		},
		{message(words(structTo(0, 2, 0), 0, 5)), message(words(structTo(0, 3, 1), 0, 5, 0, 0))},
		{message(words(structTo(0, 2, 0), 5, 5)), message(words(structTo(0, 2, 1), 5, 5, 0))},
		{message(words(structTo(0, 1, 0), 5<<32))},
		// The word of a pointer is data in one struct and a pointer in another one.
		{message(words(structTo(0, 1, 0), emptyStruct))},
		{message(words(structTo(0, 0, 1), emptyStruct)), message(words(structTo(0, 1, 2), 0, emptyStruct, 0)), message(words(structTo(0, 0, 1), structTo(0, 1, 1), 0, 0))},
		{message(words(structTo(0, 0, 2), 0, emptyStruct)), message(words(structTo(0, 2, 3), 0, 0, 0, structTo(1, 0, 1), 0, 0))},
		{message(words(structTo(0, 0, 2), emptyStruct, emptyStruct)), message(words(structTo(0, 0, 2), structTo(0, 0, 0)|4, structTo(-2, 0, 0)))},
		{message(words(structTo(0, 1, 1), 5, emptyStruct)), message(words(structTo(0, 2, 2), 5, 0, structTo(1, 0, 1), 0, 0))},
		{
			message(words(structTo(0, 0, 2), structTo(1, 1, 0), structTo(1, 1, 0), 5, 6)), message(words(structTo(0, 0, 2), structTo(2, 1, 0), structTo(0, 1, 0), 6, 5)),
			message(words(structTo(0, 0, 3), structTo(3, 1, 0), single(1, 0), 0, 9, 5, 0), words(structTo(0, 2, 1), 6, 0, 0)),
		},
		{message(words(structTo(0, 0, 2), structTo(1, 1, 0), structTo(1, 1, 0), 6, 5))},
		{message(words(structTo(0, 0, 2), structTo(1, 1, 0), structTo(1, 1, 0), 5, 5)), message(words(structTo(0, 0, 2), structTo(1, 1, 0), structTo(0, 1, 0), 5))},
		{message(words(structTo(0, 0, 1), structTo(0, 0, 1), emptyStruct)), message(words(structTo(0, 0, 1), structTo(0, 0, 1), structTo(0, 0, 1), 0))},
		{message(words(structTo(0, 0, 1), structTo(0, 0, 1), structTo(0, 1, 0), 5))},
		{message(words(structTo(0, 0, 1), listTo(0, 0, 0)))},
		// A struct overlaps the pointer to it.
		{message(words(structTo(-1, 1, 0))), message(words(structTo(1, 1, 0), 5, structTo(-1, 1, 0)))},
	}
}

// plainLists returns classes of lists that are neither of pointers nor composite.
func plainLists() [][][][]uint64 {
	list := [][][][]uint64{
		{message(words(listTo(0, 0, 1))), message(words(listTo(-1, 0, 1))), message(words(single(1, 0)), words(listTo(0, 0, 1)))},
		{message(words(listTo(0, 0, api.MaxCount)))},
		{message(words(listTo(0, 1, 1), 0)), message(words(listTo(0, 1, 1), math.MaxUint64-1))},
		{message(words(listTo(0, 1, 1), 1)), message(words(listTo(0, 1, 1), math.MaxUint64)), message(words(listTo(1, 1, 1), 0, 7))},
		{message(words(listTo(0, 1, 2), 1)), message(words(listTo(0, 1, 2), 5))},
		{message(words(listTo(0, 1, 65), 5, 1)), message(words(listTo(0, 1, 65), 5, math.MaxUint64))},
		{message(words(listTo(0, 1, 65), 5, 0)), message(words(listTo(0, 1, 65), 5, 2))},
		{message(words(listTo(0, 1, 65), 4, 1))},
		// The same bytes as elements of different sizes, and zeros at their end.
		{message(words(listTo(0, 1, 16), 0x0203))}, {message(words(listTo(0, 2, 2), 0x0203)), message(words(listTo(0, 2, 2), 0x040203))},
		{message(words(listTo(0, 3, 1), 0x0203)), message(words(listTo(0, 3, 1), 0x040203))}, {message(words(listTo(0, 4, 1), 0x0203)), message(words(listTo(0, 4, 1), 0x500000203))},
		{message(words(listTo(0, 5, 1), 0x0203))}, {message(words(listTo(0, 2, 3), 0x0203))}, {message(words(listTo(0, 2, 8), 0x0203))},
		{message(words(listTo(0, 3, 4), 0x0203))}, {message(words(listTo(0, 5, 2), 0x0203, 0))}, {message(words(listTo(0, 5, 2), 0, 0x0203))},
		{message(words(listTo(0, 5, 2), 5, 6))}, {message(words(listTo(0, 5, 2), 6, 5))},
	}
	for elem := range api.ElemPointer {
		list = append(list, [][][]uint64{message(words(listTo(0, elem, 0))), message(words(listTo(-1, elem, 0))), message(words(double(1, 0)), words(single(0, 0), listTo(0, elem, 0)))})
	}
	return list
}

func listsOfPointers() [][][][]uint64 {
	return [][][][]uint64{
		{message(words(listTo(0, 6, 0))), message(words(listTo(-1, 6, 0)))},
		{message(words(listTo(0, 6, 1), 0)), message(words(listTo(1, 6, 1), 5, single(1, 0)), words(0))},
		{message(words(listTo(0, 6, 2), 0, 0))},
		{message(words(listTo(0, 6, 1), emptyStruct)), message(words(listTo(0, 6, 1), structTo(0, 1, 1), 0, 0))},
		{message(words(listTo(0, 6, 2), emptyStruct, 0)), message(words(single(1, 1)), words(9, listTo(0, 6, 2), structTo(2, 0, 1), single(1, 5), 9, 0))},
		{message(words(listTo(0, 6, 2), 0, emptyStruct))},
		{message(words(listTo(0, 6, 2), emptyStruct, emptyStruct))},
		{message(words(listTo(0, 6, 2), structTo(1, 1, 0), structTo(1, 1, 0), 5, 6)), message(words(listTo(0, 6, 2), structTo(2, 2, 0), structTo(0, 1, 0), 6, 5, 0))},
		{message(words(listTo(0, 6, 2), structTo(1, 1, 0), structTo(1, 1, 0), 6, 5))},
		{message(words(listTo(0, 6, 1), listTo(0, 6, 1), 0)), message(words(listTo(0, 6, 1), single(1, 0)), words(listTo(0, 6, 1), 0))},
		{message(words(listTo(0, 6, 1), listTo(0, 6, 2), 0, 0))},
		{message(words(listTo(0, 6, 1), listTo(0, 2, 1), 7)), message(words(listTo(0, 6, 1), listTo(1, 2, 1), 0, 0x107))},
	}
}

func composites() [][][][]uint64 {
	return [][][][]uint64{
		{message(words(listTo(0, 7, 0), 0)), message(words(listTo(0, 7, 0), structTo(0, 1, 1))), message(words(listTo(0, 7, 2), structTo(0, 9, 9), 5, capability))},
		{
			message(words(listTo(0, 7, 0), structTo(1, 0, 0))), message(words(listTo(0, 7, 1), structTo(1, 1, 0), 0)), message(words(listTo(0, 7, 1), structTo(1, 0, 1), 0)),
			message(words(listTo(0, 7, 3), structTo(1, 0, 1), single(1, 0), 5, capability), words(0)), message(words(listTo(0, 7, 1), structTo(1, 0, 0), 5)),
		},
		{message(words(listTo(0, 7, 0), structTo(2, 0, 0))), message(words(listTo(0, 7, 4), structTo(2, 1, 1), 0, 0, 0, 0))},
		{message(words(listTo(0, 7, 0), structTo(api.MaxOffset, 0, 0))), message(words(listTo(0, 7, 1), structTo(api.MaxOffset, 0, 0), 5))},
		{message(words(listTo(0, 7, 1), structTo(1, 1, 0), 5)), message(words(listTo(0, 7, 2), structTo(1, 1, 0), 5, 6)), message(words(listTo(0, 7, 3), structTo(1, 2, 1), 5, 0, 0))},
		{message(words(listTo(0, 7, 2), structTo(1, 2, 0), 5, 6))},
		{message(words(listTo(0, 7, 2), structTo(2, 1, 0), 5, 6)), message(words(listTo(0, 7, 6), structTo(2, 2, 1), 5, 0, 0, 6, 0, 0))},
		{message(words(listTo(0, 7, 2), structTo(2, 1, 0), 6, 5))},
		{message(words(listTo(0, 7, 2), structTo(2, 1, 0), 5, 0)), message(words(listTo(0, 7, 4), structTo(2, 1, 1), 5, 0, 0, 0))},
		{message(words(listTo(0, 7, 2), structTo(2, 1, 0), 0, 5))},
		{
			message(words(listTo(0, 7, 1), structTo(1, 0, 1), emptyStruct)), message(words(listTo(0, 7, 3), structTo(1, 1, 2), 0, structTo(1, 0, 1), 0, 0)),
			message(words(listTo(0, 7, 1), structTo(1, 0, 1), single(1, 0)), words(emptyStruct)),
		},
		{message(words(listTo(0, 7, 2), structTo(1, 0, 2), 0, emptyStruct))},
		{message(words(listTo(0, 7, 2), structTo(2, 0, 1), 0, emptyStruct)), message(words(listTo(0, 7, 4), structTo(2, 0, 2), 0, 0, emptyStruct, 0))},
		{message(words(listTo(0, 7, 2), structTo(2, 0, 1), emptyStruct, 0))},
		{
			message(words(listTo(0, 7, 4), structTo(2, 1, 1), 5, structTo(2, 1, 0), 6, structTo(1, 1, 0), 7, 8)),
			message(words(listTo(0, 7, 6), structTo(2, 1, 2), 5, structTo(5, 2, 0), 0, 6, structTo(1, 1, 0), 0, 8, 7, 0)),
		},
		{message(words(listTo(0, 7, 4), structTo(2, 1, 1), 5, structTo(2, 1, 0), 6, structTo(1, 1, 0), 8, 7))},
		{message(words(listTo(0, 7, 4), structTo(2, 1, 1), 5, structTo(2, 1, 0), 6, structTo(0, 1, 0), 7))},
		{message(words(listTo(0, 7, 1), structTo(1, 0, 1), listTo(0, 7, 1), structTo(1, 1, 0), 5)), message(words(listTo(0, 7, 1), structTo(1, 0, 1), listTo(0, 7, 2), structTo(1, 1, 1), 5, 0))},
		{message(words(listTo(0, 7, 1), structTo(1, 0, 1), listTo(0, 7, 1), structTo(1, 0, 1), 0)), message(words(listTo(0, 7, 1), structTo(1, 0, 1), listTo(0, 7, 0), structTo(1, 0, 0)))},
	}
}

// Each message is also looked at as the last pointer of other objects.
func TestKnownMessages(t *testing.T) {
	fronts := [][]uint64{nil, {structTo(0, 1, 1), 5}, {listTo(0, 6, 2), emptyStruct}, {listTo(0, 7, 4), structTo(2, 1, 1), 5, 0, 5}}
	l := api.Limits{Depth: 5, Words: math.MaxInt}
	for _, front := range fronts {
		list := classes()
		for i, class := range list {
			for j, segs := range class {
				if len(segs[0]) == 0 {
					segs[0] = words(0)
				}
				list[i][j] = behind(front, segs)
			}
		}
		for i, class := range list {
			for _, a := range class {
				for j, other := range list {
					for _, b := range other {
						check(t, a, b, l, i == j)
					}
				}
			}
		}
	}
}

// behind returns a message with other words before its first segment, to which no far pointer leads.
func behind(front []uint64, segs [][]uint64) [][]uint64 {
	list := slices.Clone(segs)
	list[0] = slices.Concat(front, segs[0])
	return list
}

// The example of the chapter.
func TestAnEmptyStructEqualsOneOfZeros(t *testing.T) {
	l := api.Limits{Depth: 1, Words: 1}
	check(t, message(words(0x00000000fffffffc)), message(words(0x0000000100000000, 0)), l, true)
	check(t, message(words(0x00000000fffffffc)), message(words(0)), l, false)
	check(t, message(words(0x0000000100000000, 0)), message(words(0)), l, false)
}

func TestLists(t *testing.T) {
	for elem, size := range []int{0, 1, 8, 16, 32, 64} {
		for n := range 130 {
			list := words(listTo(0, elem, n))
			for i := range (size*n + 63) / 64 {
				list = append(list, 0x9e3779b97f4a7c15*uint64(i+1))
			}
			segs := message(list)
			checkSelf(t, ample, segs)
			for i := range 64 * (len(list) - 1) {
				if near := i - size*n; size == 64 && i%7 > 0 || size < 64 && (near < -70 || near > 70) && i%5 > 0 {
					continue
				}
				// Bits behind the last element do not count.
				other := slices.Clone(list)
				other[1+i/64] ^= 1 << (i % 64)
				check(t, segs, message(other), ample, i >= size*n)
			}
			for code := range 7 {
				for _, count := range []int{n - 1, n, n + 1} {
					if count >= 0 && (code != elem || count != n) {
						other := append(words(listTo(0, code, count)), make([]uint64, 131)...)
						check(t, segs, message(other), ample, false)
						copy(other[1:], list[1:])
						if code < 6 {
							check(t, segs, message(other), ample, false)
						}
					}
				}
			}
		}
	}
}

func TestEverySizeOfASmallStruct(t *testing.T) {
	// The pointers are null or lead to an empty struct.
	laid := func(data, ptrs, usedData, usedPtrs int) [][]uint64 {
		list := append(words(structTo(0, data, ptrs)), make([]uint64, data+ptrs)...)
		if usedData > 0 {
			list[usedData] = 5
		}
		if usedPtrs > 0 {
			list[data+usedPtrs] = emptyStruct
		}
		if data+ptrs == 0 {
			list[0] = emptyStruct
		}
		return message(list)
	}
	const most = 4
	for i := range most * most * most * most {
		data, ptrs, otherData, otherPtrs := i%most, i/most%most, i/most/most%most, i/most/most/most
		for usedData := range data + 1 {
			for usedPtrs := range ptrs + 1 {
				a := laid(data, ptrs, usedData, usedPtrs)
				for otherUsedData := range otherData + 1 {
					for otherUsedPtrs := range otherPtrs + 1 {
						b := laid(otherData, otherPtrs, otherUsedData, otherUsedPtrs)
						check(t, a, b, ample, usedData == otherUsedData && usedPtrs == otherUsedPtrs)
					}
				}
			}
		}
	}
}

func TestTheLargestStructs(t *testing.T) {
	const most = 65535
	for _, size := range [][2]int{{most, 0}, {0, most}, {most, most}} {
		n := size[0] + size[1]
		list := append(words(structTo(0, size[0], size[1])), make([]uint64, n)...)
		check(t, message(words(emptyStruct)), message(list), ample, true)
		for _, i := range []int{1, size[0], size[0] + 1, n} {
			if i == 0 || i > n {
				continue
			}
			other := slices.Clone(list)
			other[i] = emptyStruct
			check(t, message(words(emptyStruct)), message(other), ample, false)
			check(t, message(list), message(other), ample, false)
			checkSelf(t, ample, message(other))
			check(t, message(other), message(words(single(1, 0)), other), ample, true)
		}
	}
}

func TestLargeLists(t *testing.T) {
	const n = 1 << 14
	for _, word := range words(listTo(0, 5, n), listTo(0, 6, n), listTo(0, 1, 64*n), listTo(0, 2, 8*n)) {
		a := append(words(word), make([]uint64, n)...)
		for _, i := range []int{1, 2, n / 2, n} {
			b := slices.Clone(a)
			b[i] = emptyStruct
			check(t, message(a), message(b), ample, false)
			checkSelf(t, ample, message(b))
		}
	}
	for _, size := range [][2]int{{1, 0}, {0, 1}, {1, 1}, {2, 3}} {
		a := words(listTo(0, 7, n*(size[0]+size[1])), structTo(n, size[0], size[1]))
		a = append(a, make([]uint64, n*(size[0]+size[1]))...)
		check(t, message(a), message(words(listTo(0, 7, 0), structTo(n, 0, 0))), ample, true)
		check(t, message(a), message(words(listTo(0, 7, 0), structTo(n-1, 0, 0))), ample, false)
		for _, i := range []int{2, 3, len(a) / 2, len(a) - 1} {
			b := slices.Clone(a)
			b[i] = emptyStruct
			check(t, message(a), message(b), ample, false)
			check(t, message(words(listTo(0, 7, 0), structTo(n, 0, 0))), message(b), ample, false)
			checkSelf(t, ample, message(b))
		}
	}
}

// The largest lists of elements without words.
func TestTheLongestLists(t *testing.T) {
	void := func(n int) [][]uint64 { return message(words(listTo(0, 0, n))) }
	empty := func(n int) [][]uint64 { return message(words(listTo(0, 7, 0), structTo(n, 0, 0))) }
	for _, n := range []int{api.MaxCount, api.MaxCount - 1} {
		checkExactly(t, void(n), void(n), 1, 0, true)
		checkExactly(t, empty(n), empty(n), 1, 1+n, true)
		check(t, void(n), void(n-1), ample, false)
		check(t, empty(n), empty(n-1), api.Limits{Depth: 1, Words: math.MaxInt}, false)
		check(t, empty(n), void(n), api.Limits{Depth: 1, Words: math.MaxInt}, false)
	}
	// Many of them: no time is spent on their elements.
	const many = 1000
	list := words(listTo(0, 6, many))
	for i := range many {
		list = append(list, listTo(many-1-i, 7, 0))
	}
	list = append(list, structTo(api.MaxCount, 0, 0))
	checkExactly(t, message(list), clone(message(list)), 2, many+many*(1+api.MaxCount), true)
}

// P17.2: limits and errors.

// Both messages must be within the limits, also if only one of them needs as much.
func TestExactLimits(t *testing.T) {
	for _, x := range []struct {
		a, b        [][]uint64
		depth, cost int
		want        bool
	}{
		{message(words(0)), message(nil), 0, 0, true},
		{message(words(emptyStruct)), message(words(emptyStruct)), 1, 0, true},
		{message(words(listTo(0, 0, 7))), message(words(listTo(0, 0, 7))), 1, 0, true},
		{message(words(listTo(0, 1, 65), 1, 2)), message(words(listTo(0, 1, 65), 1, 2)), 1, 2, true},
		{message(words(structTo(0, 1, 1), 5, 0)), message(words(structTo(0, 1, 1), 5, 0)), 1, 2, true},
		{message(words(listTo(0, 6, 2), 0, emptyStruct)), message(words(listTo(0, 6, 2), 0, emptyStruct)), 2, 2, true},
		{message(words(listTo(0, 7, 2), structTo(1, 1, 0), 5, 6)), message(words(single(0, 1), listTo(0, 7, 2), structTo(1, 1, 0), 5, 6)), 1, 3, true},
		{message(words(listTo(0, 7, 0), structTo(7, 0, 0))), message(words(listTo(0, 7, 0), structTo(7, 0, 0))), 1, 8, true},
		{message(words(structTo(0, 0, 2), structTo(1, 1, 0), structTo(1, 1, 0), 5, 6)), message(words(structTo(0, 0, 2), structTo(1, 1, 0), structTo(1, 1, 0), 5, 7)), 2, 4, false},
	} {
		checkExactly(t, x.a, x.b, x.depth, x.cost, x.want)
	}
	small, null := message(words(emptyStruct)), message(words(0))
	for _, x := range []struct {
		segs        [][]uint64
		depth, cost int
		isSmall     bool
	}{
		{message(words(structTo(0, 1, 0), 0)), 1, 1, true},
		{message(words(structTo(0, 0, 2), 0, 0)), 1, 2, true},
		{message(words(structTo(0, 1, 0), 5)), 1, 1, false},
		{message(words(structTo(0, 0, 1), emptyStruct)), 2, 1, false},
		{message(words(structTo(0, 0, 1), structTo(0, 1, 0), 0)), 2, 2, false},
		{message(words(listTo(0, 6, 1), listTo(0, 6, 1), 0)), 2, 2, false},
	} {
		for _, l := range []api.Limits{{Depth: x.depth, Words: x.cost}, {Depth: maxDepth, Words: math.MaxInt}} {
			check(t, x.segs, small, l, x.isSmall)
			check(t, x.segs, null, l, false)
		}
		for _, other := range [][][]uint64{small, null, x.segs} {
			checkErrors(t, x.segs, other, api.Limits{Depth: maxDepth, Words: x.cost - 1}, api.ErrBudget, api.OK)
		}
		for _, other := range [][][]uint64{null, x.segs} {
			checkErrors(t, x.segs, other, api.Limits{Depth: x.depth - 1, Words: math.MaxInt}, api.ErrDepth, api.OK)
		}
	}
}

func TestLimitsWithoutBudgetOrDepth(t *testing.T) {
	for _, l := range []api.Limits{{}, {Depth: -1, Words: -1}, {Depth: math.MinInt, Words: math.MinInt}} {
		check(t, message(words(0)), message(nil), l, true)
		checkErrors(t, message(words(0)), message(words(emptyStruct)), l, api.OK, api.ErrDepth)
		l.Depth = 1
		check(t, message(words(emptyStruct)), message(words(0)), l, false)
		check(t, message(words(emptyStruct)), message(words(single(1, 0)), words(emptyStruct)), l, true)
		checkErrors(t, message(words(emptyStruct)), message(words(structTo(0, 1, 0), 0)), l, api.OK, api.ErrBudget)
	}
}

// A faulty message has no denotation under ample limits.
type faulty struct {
	segs [][]uint64
	err  api.Errno
}

func faults() []faulty {
	return []faulty{
		{nil, api.ErrBounds},
		{message(), api.ErrBounds},
		{message(words(structTo(0, 1, 0))), api.ErrBounds},
		{message(words(structTo(-100, 0, 0))), api.ErrBounds},
		{message(words(listTo(0, 1, 65), 0)), api.ErrBounds},
		{message(words(listTo(0, 7, 0))), api.ErrBounds},
		{message(words(single(1, 0))), api.ErrBounds},
		{message(words(double(1, 0)), words(single(9, 0), structTo(0, 1, 0))), api.ErrBounds},
		{message(words(single(1, 0)), words(single(1, 0))), api.ErrFar},
		{message(words(double(1, 0)), words(0, structTo(0, 0, 0))), api.ErrFar},
		{message(words(double(1, 0)), words(single(0, 0), structTo(1, 0, 0))), api.ErrFar},
		{message(words(reserved)), api.ErrKind},
		{message(words(math.MaxUint64)), api.ErrKind},
		{message(words(single(1, 0)), words(reserved)), api.ErrKind},
		{message(words(listTo(0, 7, 1), structTo(2, 1, 0), 0)), api.ErrTag},
		{message(words(listTo(0, 7, 1), structTo(-1, 1, 0), 0)), api.ErrTag},
		{message(words(listTo(0, 7, 1), listTo(1, 2, 0), 0)), api.ErrTag},
		{message(words(capability)), api.ErrCapability},
		{message(words(0x0000000500000003)), api.ErrCapability},
		{message(words(structTo(-1, 0, 1))), api.ErrDepth},
		{message(words(structTo(0, 0, 2), structTo(-2, 0, 2), structTo(-3, 0, 2))), api.ErrDepth},
		{message(words(listTo(0, 7, 0), structTo(api.MaxOffset, 0, 0))), api.ErrBudget},
	}
}

// The error is that of the first message that has one, whatever the other one is.
func TestErrors(t *testing.T) {
	for _, x := range faults() {
		checkErrors(t, x.segs, x.segs, ample, x.err, x.err)
		for _, y := range faults() {
			checkErrors(t, x.segs, y.segs, ample, x.err, y.err)
		}
		for _, class := range structs() {
			checkErrors(t, x.segs, class[0], ample, x.err, api.OK)
		}
	}
}

// An error counts wherever it is, also behind a difference of the messages.
func TestErrorsBehindOtherObjects(t *testing.T) {
	fronts := [][]uint64{
		{structTo(0, 1, 2), 5, 0}, {listTo(0, 6, 2), emptyStruct}, {listTo(0, 6, 3), 0, 0}, {listTo(0, 7, 4), structTo(2, 1, 1), 5, 0, 5},
		{structTo(0, 0, 1), structTo(0, 2, 1), 5, 6},
	}
	for _, front := range fronts {
		good := message(append(slices.Clone(front), 0))
		for _, x := range faults()[2:] {
			bad := slices.Clone(x.segs)
			bad[0] = slices.Concat(front, x.segs[0])
			checkErrors(t, bad, good, ample, x.err, api.OK)
			checkErrors(t, bad, bad, ample, x.err, x.err)
			for _, y := range faults() {
				checkErrors(t, bad, y.segs, ample, x.err, y.err)
			}
			for _, class := range classes() {
				if _, err := denote.Message(class[0], ample); err == api.OK {
					checkErrors(t, bad, class[0], ample, x.err, api.OK)
				}
			}
		}
	}
}

func TestMessagesWithoutSegments(t *testing.T) {
	for _, l := range []api.Limits{{}, ample, {Depth: -1, Words: -1}} {
		checkErrors(t, nil, nil, l, api.ErrBounds, api.ErrBounds)
		checkErrors(t, nil, message(words(0)), l, api.ErrBounds, api.OK)
		checkErrors(t, message(), message(nil), l, api.ErrBounds, api.OK)
		check(t, message(nil), message(words()), l, true)
		check(t, message(nil, nil), message(nil, words(capability)), l, true)
	}
}

// P17.2: all of it, against the denotations.

func TestEverySmallPair(t *testing.T) {
	choice := words(0, 5, capability, emptyStruct, structTo(0, 1, 0), structTo(0, 0, 1), structTo(0, 1, 1), structTo(-1, 0, 1),
		listTo(0, 1, 3), listTo(0, 6, 1), listTo(0, 7, 1), listTo(0, 7, 0), single(0, 1), single(1, 0), double(0, 1))
	var messages [][][]uint64
	for _, a := range choice {
		for _, b := range choice {
			messages = append(messages, message(words(a, b)), message(words(a), words(b)), message(words(a, b, 5)), message(words(a, b, 0)), message(words(a, b, emptyStruct)))
		}
	}
	l := api.Limits{Depth: 3, Words: 5}
	same, different := 0, 0
	for i, a := range messages {
		for j := i % 3; j <= i; j += 3 {
			switch got := checkDefinition(t, a, messages[j], l); {
			case got.isEqual:
				same++
			case got.err == api.OK:
				different++
			}
		}
	}
	if same < 3000 || different < 3000 {
		t.Errorf("only %d equal and %d different pairs", same, different)
	}
}

func TestRandomMessages(t *testing.T) {
	r := rand.New(rand.NewSource(2))
	outcomes := map[outcome]int{}
	for range 100000 {
		l := api.Limits{Depth: r.Intn(8), Words: r.Intn(1 << r.Intn(9))}
		a := randomMessage(r)
		b := randomMessage(r)
		if r.Intn(2) == 0 {
			b = flipped(r, a)
		}
		outcomes[checkDefinition(t, a, b, l)]++
	}
	for err := api.OK; err <= api.ErrBudget; err++ {
		if err != api.ErrFrame && outcomes[outcome{err: err}] < 100 || outcomes[outcome{isEqual: true}] < 1000 {
			t.Errorf("only %d messages with the error %d", outcomes[outcome{err: err}], err)
		}
	}
}

// flipped returns a message that differs from another one in a bit, if that has a word.
func flipped(r *rand.Rand, segs [][]uint64) [][]uint64 {
	other := clone(segs)
	if i := r.Intn(len(segs)); len(segs[i]) > 0 {
		other[i][r.Intn(len(segs[i]))] ^= 1 << r.Intn(64)
	}
	return other
}

func TestRandomNodesInRandomLayouts(t *testing.T) {
	r := rand.New(rand.NewSource(3))
	large := 0
	for range 5000 {
		n := random(r, 1+r.Intn(4))
		a, costA := scatter(r, n)
		b, costB := scatter(r, n)
		checkExactly(t, a, b, node.Depth(n), max(costA, costB), true)
		if costA > 20 {
			large++
		}
	}
	if large < 1000 {
		t.Errorf("only %d messages are large", large)
	}
}

func TestMessagesThatDifferInABit(t *testing.T) {
	r := rand.New(rand.NewSource(4))
	same, different := 0, 0
	for range 2000 {
		n := random(r, 3)
		a, _ := scatter(r, n)
		b, _ := scatter(r, n)
		for range 20 {
			switch got := checkDefinition(t, a, flipped(r, b), api.Limits{Depth: 100, Words: 1 << 12}); {
			case got.isEqual:
				same++
			case got.err == api.OK:
				different++
			}
		}
	}
	if same < 1000 || different < 1000 {
		t.Errorf("only %d equal and %d different pairs", same, different)
	}
}

// Nodes that differ in one place only, each in a layout of its own.
func TestNodesThatDifferInOnePlace(t *testing.T) {
	r := rand.New(rand.NewSource(5))
	different := 0
	for range 5000 {
		n := random(r, 4)
		other := trim.Trim(n)
		replace(r, &other)
		a, _ := scatter(r, n)
		b, _ := scatter(r, other)
		want := node.Equal(trim.Trim(n), trim.Trim(other))
		check(t, a, b, ample, want)
		if !want {
			different++
		}
	}
	if different < 3000 {
		t.Errorf("only %d nodes are different", different)
	}
}

// replace changes a bit of a node or replaces a kid, at a random place.
func replace(r *rand.Rand, n *api.Node) {
	switch {
	case len(n.Kids) > 0 && r.Intn(4) > 0:
		replace(r, &n.Kids[r.Intn(len(n.Kids))])
	case len(n.Data) > 0:
		n.Data[r.Intn(len(n.Data))] ^= 1
	case n.Kind == api.NodeStruct:
		*n = structOf(words(0, 3))
	case n.Kind == api.NodeNull:
		*n = structOf(nil)
	case n.Elem == api.ElemComposite:
		n.Kids, n.N = append(n.Kids, structOf(nil)), n.N+1
	case n.Elem == api.ElemPointer:
		n.Kids, n.N = append(n.Kids, api.Node{}), n.N+1
	default:
		*n = api.Node{Kind: api.NodeList, N: n.N + 1}
	}
}

// Messages that are equal but for the object at the end of a chain.
func TestChainsOfEveryKind(t *testing.T) {
	r := rand.New(rand.NewSource(6))
	wraps := []func(api.Node) api.Node{
		func(n api.Node) api.Node { return structOf(nil, n) },
		func(n api.Node) api.Node { return listOf(api.ElemPointer, n, api.Node{}) },
		func(n api.Node) api.Node {
			return listOf(api.ElemComposite, structOf(words(7)), structOf(nil, api.Node{}, n))
		},
	}
	// Chains of each kind, and one of all kinds by turns.
	for kind := range len(wraps) + 1 {
		n, other := structOf(words(5)), structOf(words(6))
		for depth := 1; depth <= maxDepth; depth++ {
			if depth < 5 || depth > maxDepth-2 || depth%300 == 0 {
				a, costA := scatter(r, n)
				b, costB := scatter(r, n)
				checkExactly(t, a, b, depth, max(costA, costB), true)
				b, costB = scatter(r, other)
				checkExactly(t, a, b, depth, max(costA, costB), false)
			}
			wrap := wraps[depth%len(wraps)]
			if kind < len(wraps) {
				wrap = wraps[kind]
			}
			n, other = wrap(n), wrap(other)
		}
		a, _ := scatter(r, n)
		b, _ := scatter(r, other)
		l := api.Limits{Depth: maxDepth, Words: math.MaxInt}
		checkErrors(t, a, b, l, api.ErrDepth, api.ErrDepth)
		checkErrors(t, a, message(words(0)), l, api.ErrDepth, api.OK)
	}
}

// Each pointer leads to an object of its own: the objects of a few words may be many, but not more
// than the budget allows.
func TestObjectsWithManyPointersToThem(t *testing.T) {
	// Each level has twice as many objects as the one above it.
	pairs := func(levels int, last uint64) [][]uint64 {
		list := words(structTo(0, 0, 2))
		for range levels - 1 {
			list = append(list, structTo(1, 0, 2), structTo(0, 0, 2))
		}
		return message(append(list, structTo(1, 1, 0), structTo(0, 1, 0), last))
	}
	const levels = 12
	cost := 3<<levels - 2
	checkExactly(t, pairs(levels, 5), pairs(levels, 5), levels+1, cost, true)
	checkExactly(t, pairs(levels, 5), pairs(levels, 6), levels+1, cost, false)
	for more := levels + 1; more < maxDepth; more += 99 {
		l := api.Limits{Depth: maxDepth, Words: cost}
		checkErrors(t, pairs(more, 5), pairs(more, 5), l, api.ErrBudget, api.ErrBudget)
		checkErrors(t, pairs(levels, 5), pairs(more, 5), l, api.OK, api.ErrBudget)
	}
}

// P17.3

// layouts returns messages that all denote the same node.
func layouts(r *rand.Rand, n api.Node) [][][]uint64 {
	list := [][][]uint64{message(canonwrite.Write(trim.Trim(n)))}
	for range 4 {
		segs, _ := scatter(r, n)
		list = append(list, segs)
	}
	return list
}

func TestEqualityIsAnEquivalence(t *testing.T) {
	r := rand.New(rand.NewSource(7))
	for range 200 {
		var messages [][][]uint64
		var nodes []api.Node
		for range 4 {
			n := random(r, r.Intn(3))
			for _, segs := range layouts(r, n) {
				messages, nodes = append(messages, segs), append(nodes, trim.Trim(n))
			}
		}
		checkSelf(t, ample, messages...)
		related := make([]uint, len(messages))
		for i, a := range messages {
			for j, b := range messages {
				isEqual, err := equal.Messages(a, b, ample)
				if err != api.OK || isEqual != node.Equal(nodes[i], nodes[j]) {
					t.Fatalf("Messages(%s, %s) = %t, %d", hex(a), hex(b), isEqual, err)
				}
				if isEqual {
					related[i] |= 1 << j
				}
			}
		}
		for i := range related {
			for rest := related[i]; rest > 0; rest &= rest - 1 {
				if j := bits.TrailingZeros(rest); related[i] != related[j] {
					t.Fatalf("%s and %s are equal to different messages", hex(messages[i]), hex(messages[j]))
				}
			}
		}
	}
}

func TestMessagesAreEqualIfTheirFormsAre(t *testing.T) {
	r := rand.New(rand.NewSource(8))
	found := [2]int{}
	for range 30000 {
		a, b := randomMessage(r), randomMessage(r)
		l := api.Limits{Depth: 10, Words: 1 << 10}
		if r.Intn(2) == 0 {
			a, _ = scatter(r, random(r, 1+r.Intn(2)))
			b = flipped(r, a)
		}
		first, errA := canon.Segments(a, l)
		second, errB := canon.Segments(b, l)
		if errA != api.OK || errB != api.OK {
			checkErrors(t, a, b, l, errA, errB)
			continue
		}
		isEqual := slices.Equal(first[0], second[0])
		check(t, a, b, l, isEqual)
		check(t, first, b, l, isEqual)
		check(t, first, second, l, isEqual)
		check(t, a, first, l, true)
		if isEqual {
			found[1]++
		} else {
			found[0]++
		}
	}
	if min(found[0], found[1]) < 1000 {
		t.Errorf("only %d different and %d equal pairs", found[0], found[1])
	}
}

// P17.4

// spare returns a copy of a message in which each slice has unused capacity, which is not zero.
func spare(segs [][]uint64) [][]uint64 {
	list := make([][]uint64, 0, len(segs)+1)
	for _, seg := range segs {
		list = append(list, append(slices.Clone(seg), 0xa5a5, 0xa5a5)[:len(seg)])
	}
	return append(list, words(0xa5a5))[:len(segs)]
}

// memory writes all of a message, with its unused capacity.
func memory(segs [][]uint64) string {
	s := fmt.Sprint(len(segs))
	for _, seg := range segs[:cap(segs)] {
		s += fmt.Sprint(len(seg), seg[:cap(seg)])
	}
	return s
}

func TestArgumentsAreNotModified(t *testing.T) {
	r := rand.New(rand.NewSource(9))
	for range 300 {
		list := append(layouts(r, random(r, 4)), randomMessage(r), message(words(structTo(0, 0, 2), 0, capability)), message(nil, words(1)), nil)
		for i, a := range list {
			a, b := spare(a), spare(list[(i+1)%len(list)])
			beforeA, beforeB := memory(a), memory(b)
			for _, l := range []api.Limits{ample, {Depth: 2, Words: 100}, {Depth: 100, Words: 5}} {
				checkDefinition(t, a, b, l)
				checkDefinition(t, a, a, l)
				if memory(a) != beforeA || memory(b) != beforeB {
					t.Fatalf("%s became %s or %s became %s", beforeA, memory(a), beforeB, memory(b))
				}
			}
		}
	}
}

// The words behind a list neither change nor count.
func TestDataAreNotModified(t *testing.T) {
	all := words(5, 0, 6, 0, 0, 7)
	before := slices.Clone(all)
	for i := range all {
		for j := range all {
			n := max(i, j)
			checkData(t, all[:i], all[:j], slices.Equal(extended(all[:i], n), extended(all[:j], n)))
		}
	}
	if !slices.Equal(all, before) {
		t.Errorf("%x became %x", before, all)
	}
}

// The messages may share memory with each other.
func TestMessagesThatShareMemory(t *testing.T) {
	segs := message(words(single(1, 0)), words(structTo(0, 2, 1), 5, 0, listTo(0, 2, 1), 7))
	check(t, segs, segs, ample, true)
	check(t, segs, segs[1:], ample, true)
	check(t, segs, message(segs[1][2:]), ample, false)
	check(t, segs[1:], message(segs[1][3:]), ample, false)
}

// Calls do not depend on those before them, in particular on those that end with an error.
func TestResultsDependOnArgumentsOnly(t *testing.T) {
	a, b := message(words(structTo(0, 2, 1), 5, 0, listTo(0, 2, 1), 0x207)), message(words(structTo(0, 1, 1), 5, listTo(0, 2, 1), 7))
	for range 3 {
		checkExactly(t, a, b, 2, 4, true)
		checkErrors(t, a, message(words(structTo(-1, 0, 1))), ample, api.OK, api.ErrDepth)
		checkErrors(t, nil, b, ample, api.ErrBounds, api.OK)
	}
}

// P1: the promises leave larger depths open, but the function terminates.
func TestDepthsThatAreLeftOpen(t *testing.T) {
	cycle, far := message(words(structTo(-1, 0, 1))), message(words(single(1, 0)), words(structTo(0, 0, 1), single(1, 0)))
	long := slices.Repeat(words(structTo(0, 0, 1)), 1<<22)
	long[len(long)-1] = emptyStruct
	for _, depth := range []int{maxDepth + 1, 1 << 25, math.MaxInt} {
		l := api.Limits{Depth: depth, Words: math.MaxInt}
		for _, segs := range [][][]uint64{cycle, far, message(long)} {
			checkErrors(t, segs, segs, l, api.ErrDepth, api.ErrDepth)
			checkErrors(t, segs, message(words(0)), l, api.ErrDepth, api.OK)
		}
		check(t, message(words(structTo(0, 2, 0), 5, 0)), message(words(structTo(0, 1, 0), 5)), l, true)
	}
}
