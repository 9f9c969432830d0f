package hash_test

import (
	"encoding/binary"
	"fmt"
	libfnv "hash/fnv"
	"math"
	"math/rand"
	"slices"
	"testing"

	"capnp/api"
	"capnp/canon"
	"capnp/canonwrite"
	"capnp/denote"
	"capnp/equal"
	"capnp/fnv"
	"capnp/hash"
	"capnp/node"
	"capnp/trim"
	"capnp/word"
)

const (
	maxDepth  = 1000
	maxBudget = 1<<28 - 1
)

// ample are limits that no message of these tests exceeds unless it is meant to.
var ample = api.Limits{Depth: 100, Words: 1 << 24}

// structTo returns the word of a struct pointer.
func structTo(offset, data, ptrs int) uint64 {
	return uint64(ptrs)<<48 | uint64(data)<<32 | uint64(uint32(offset)<<2)
}

// listTo returns the word of a list pointer.
func listTo(offset, elem, count int) uint64 {
	return uint64(count)<<35 | uint64(elem)<<32 | uint64(uint32(offset)<<2) | 1
}

// single returns the word of a far pointer that is not double.
func single(seg, pad int) uint64 { return uint64(seg)<<32 | uint64(pad)<<3 | 2 }

// double returns the word of a double-far pointer.
func double(seg, pad int) uint64 { return uint64(seg)<<32 | uint64(pad)<<3 | 6 }

// Words of pointers: to a struct without words, and those that are an error at every position.
const (
	emptyStruct = 0x00000000fffffffc
	capability  = 3
	reserved    = 7
)

// message returns its arguments, as the segments of a message.
func message(segs ...[]uint64) [][]uint64 { return segs }

// words returns its arguments.
func words(list ...uint64) []uint64 { return list }

// structOf returns a struct with the given data words.
func structOf(data []uint64, kids ...api.Node) api.Node {
	return api.Node{Kind: api.NodeStruct, Data: encoding(data), Kids: kids}
}

// listOf returns a list of pointers or a composite list.
func listOf(elem int, kids ...api.Node) api.Node {
	return api.Node{Kind: api.NodeList, Elem: elem, N: len(kids), Kids: kids}
}

// plain returns a list of elements that are neither pointers nor structs.
func plain(elem, n int, data ...byte) api.Node {
	return api.Node{Kind: api.NodeList, Elem: elem, N: n, Data: data}
}

// encoding returns the concatenated encodings of words.
func encoding(list []uint64) []byte {
	var b []byte
	for _, w := range list {
		b = binary.LittleEndian.AppendUint64(b, w)
	}
	return b
}

// library returns the hash of the encoding of words by the standard library.
func library(list []uint64) uint64 {
	h := libfnv.New64a()
	h.Write(encoding(list))
	return h.Sum64()
}

// brief writes words, segments or a node, but no more than a few hundred characters.
func brief(x any) string { return fmt.Sprintf("%.400s", fmt.Sprintf("%x", x)) }

// check checks the results for a message with a canonical form under limits.
func check(t *testing.T, segs [][]uint64, l api.Limits, form ...uint64) {
	t.Helper()
	want := library(form)
	if got, err := hash.Message(segs, l); got != want || err != api.OK {
		t.Fatalf("Message(%s, %+v) = %x, %d, want %x", brief(segs), l, got, err, want)
	}
	if got, err := hash.Size(segs, l); got != 8*len(form) || err != api.OK {
		t.Fatalf("Size(%s, %+v) = %d, %d, want %d", brief(segs), l, got, err, 8*len(form))
	}
	// P19.3: the form is a message with the same hash, which is that of its bytes.
	if got, err := hash.Message(message(form), l); got != fnv.Sum(word.Bytes(form)) || got != want || err != api.OK {
		t.Fatalf("Message of the form of %s is %x, %d, want %x", brief(segs), got, err, want)
	}
}

// checkError checks that a message has neither a hash nor a size under limits.
func checkError(t *testing.T, segs [][]uint64, l api.Limits, want api.Errno) {
	t.Helper()
	if got, err := hash.Message(segs, l); got != 0 || err != want {
		t.Fatalf("Message(%s, %+v) = %x, %d, want 0, %d", brief(segs), l, got, err, want)
	}
	if got, err := hash.Size(segs, l); got != 0 || err != want {
		t.Fatalf("Size(%s, %+v) = %d, %d, want 0, %d", brief(segs), l, got, err, want)
	}
}

// checkExactly checks a message under the smallest limits with which it has a denotation, and above
// and below them.
func checkExactly(t *testing.T, segs [][]uint64, depth, cost int, form ...uint64) {
	t.Helper()
	check(t, segs, api.Limits{Depth: depth, Words: cost}, form...)
	check(t, segs, api.Limits{Depth: maxDepth, Words: maxBudget, Out: -1}, form...)
	if depth > 0 {
		checkError(t, segs, api.Limits{Depth: depth - 1, Words: maxBudget}, api.ErrDepth)
	}
	if cost > 0 {
		checkError(t, segs, api.Limits{Depth: maxDepth, Words: cost - 1}, api.ErrBudget)
	}
}

// checkDefinition checks a message against layers 12 and 15.
func checkDefinition(t *testing.T, segs [][]uint64, l api.Limits) api.Errno {
	t.Helper()
	n, err := denote.Message(segs, l)
	if err != api.OK {
		checkError(t, segs, l, err)
		return err
	}
	form, _ := canon.Words(segs, l)
	check(t, segs, l, form...)
	checkNode(t, n, form...)
	return api.OK
}

// checkNode checks the hash of a trimmed node with a canonical form.
func checkNode(t *testing.T, n api.Node, form ...uint64) {
	t.Helper()
	if got, want := hash.Node(n), library(form); got != want {
		t.Fatalf("Node(%s) = %x, want %x", brief(n), got, want)
	}
}

// A layouter lays out a node as a message that is rarely canonical: each object is in a random
// segment, often behind a landing pad, and often larger than it must be.
type layouter struct {
	r    *rand.Rand
	segs [][]uint64
	cost int // of the objects
}

// layout returns a message that denotes the trimmed form of n, and its cost.
func layout(r *rand.Rand, n api.Node) ([][]uint64, int) {
	l := &layouter{r: r, segs: make([][]uint64, 1+r.Intn(4))}
	l.segs[0] = words(0)
	l.point(0, 0, n)
	return l.segs, l.cost
}

// put appends words to a segment, sometimes behind one to which nothing refers, and returns their index.
func (l *layouter) put(seg int, list ...uint64) int {
	if l.r.Intn(4) == 0 {
		l.segs[seg] = append(l.segs[seg], l.r.Uint64())
	}
	l.segs[seg] = append(l.segs[seg], list...)
	return len(l.segs[seg]) - len(list)
}

// point sets a pointer to n, whose object is put into a random segment.
func (l *layouter) point(seg, at int, n api.Node) {
	if n.Kind == api.NodeNull {
		return
	}
	target, pad := l.r.Intn(len(l.segs)), l.r.Intn(len(l.segs))
	start, w := l.object(target, n)
	switch {
	case seg == target && l.r.Intn(3) > 0:
		l.segs[seg][at] = w | structTo(start-at-1, 0, 0)
	case l.r.Intn(2) > 0:
		landing := l.put(target, 0)
		l.segs[target][landing] = w | structTo(start-landing-1, 0, 0)
		l.segs[seg][at] = single(target, landing)
	default:
		l.segs[seg][at] = double(pad, l.put(pad, single(target, start), w))
	}
}

// object puts the objects of n into segments, and returns the index of the first one and its
// pointer with Offset 0.
func (l *layouter) object(seg int, n api.Node) (int, uint64) {
	switch {
	case n.Kind == api.NodeStruct:
		// At least one word: with Offset 0, the word of the pointer would be null.
		data, ptrs := 1+len(n.Data)/8+l.r.Intn(2), len(n.Kids)+l.r.Intn(2)
		return l.elements(seg, nil, data, ptrs, n), structTo(0, data, ptrs)
	case n.Elem == api.ElemComposite:
		data, ptrs := trim.Uniform(n)
		data, ptrs = data+l.r.Intn(2), ptrs+l.r.Intn(2)
		if data+ptrs == 0 {
			l.cost += n.N
		}
		tag := words(structTo(n.N, data, ptrs))
		return l.elements(seg, tag, data, ptrs, n.Kids...), listTo(0, n.Elem, n.N*(data+ptrs))
	case n.Elem == api.ElemPointer:
		return l.elements(seg, nil, 0, n.N, n), listTo(0, n.Elem, n.N)
	}
	list := l.bits(n)
	l.cost += len(list)
	return l.put(seg, list...), listTo(0, n.Elem, n.N)
}

// elements puts structs of the given sizes into a segment, behind a tag if they have one, and
// points to their kids.
func (l *layouter) elements(seg int, tag []uint64, data, ptrs int, list ...api.Node) int {
	object := tag
	for _, n := range list {
		object = append(object, structure(n.Data, data+ptrs)...)
	}
	l.cost += len(object)
	start := l.put(seg, object...)
	for i, n := range list {
		for j, kid := range n.Kids {
			l.point(seg, start+len(tag)+i*(data+ptrs)+data+j, kid)
		}
	}
	return start
}

// bits returns the words of a list with random bits behind the last element.
func (l *layouter) bits(n api.Node) []uint64 {
	list := structure(n.Data, (len(n.Data)+7)/8)
	for i := []int{0, 1, 8, 16, 32, 64}[n.Elem] * n.N; i < 64*len(list); i++ {
		list[i/64] |= uint64(l.r.Intn(2)) << (i % 64)
	}
	return list
}

// structure returns n words that begin with those of data.
func structure(data []byte, n int) []uint64 {
	b := append(slices.Clone(data), make([]byte, 8*n-len(data))...)
	list := make([]uint64, n)
	for i := range list {
		list[i] = binary.LittleEndian.Uint64(b[8*i:])
	}
	return list
}

// random returns a well-formed node with a nesting of at most depth, often with trailing zeros.
func random(r *rand.Rand, depth int) api.Node {
	below := func() api.Node { return random(r, depth-1) }
	switch r.Intn(5) * min(depth, 1) {
	case 1:
		return randomStruct(r, depth)
	case 2:
		return listOf(api.ElemPointer, several(r, below)...)
	case 3:
		return listOf(api.ElemComposite, several(r, func() api.Node { return randomStruct(r, depth) })...)
	case 4:
		return randomElements(r)
	}
	return api.Node{}
}

func randomStruct(r *rand.Rand, depth int) api.Node {
	data := make([]uint64, r.Intn(4))
	for i := range data {
		data[i] = uint64(r.Intn(2) * r.Intn(1000))
	}
	return structOf(data, several(r, func() api.Node { return random(r, depth-1) })...)
}

func randomElements(r *rand.Rand) api.Node {
	n := plain(r.Intn(6), r.Intn(40))
	bits := []int{0, 1, 8, 16, 32, 64}[n.Elem] * n.N
	n.Data = make([]byte, (bits+7)/8)
	for i := range bits {
		n.Data[i/8] |= byte(r.Intn(4)/3) << (i % 8)
	}
	return n
}

// several returns up to four nodes.
func several(r *rand.Rand, one func() api.Node) []api.Node {
	nodes := make([]api.Node, r.Intn(5))
	for i := range nodes {
		nodes[i] = one()
	}
	return nodes
}

// randomMessage returns a message of words that are often pointers to objects in small segments.
func randomMessage(r *rand.Rand) [][]uint64 {
	segs := make([][]uint64, 1+r.Intn(3))
	for i := range segs {
		segs[i] = make([]uint64, r.Intn(10))
		for j := range segs[i] {
			offset := r.Intn(6) - 2
			choice := words(0, 0, structTo(offset, r.Intn(3), r.Intn(3)), structTo(offset, r.Intn(2), r.Intn(4)),
				listTo(offset, r.Intn(6), r.Intn(70)), listTo(offset, 6, r.Intn(4)), listTo(offset, 7, r.Intn(5)),
				single(r.Intn(len(segs)), r.Intn(8)), double(r.Intn(len(segs)), r.Intn(8)), uint64(4*r.Intn(8)+3), r.Uint64())
			segs[i][j] = choice[r.Intn(len(choice))]
		}
	}
	return segs
}

// A known node has a canonical form and a hash that are written out, so that they do not depend on
// other functions of this file.
type known struct {
	node        api.Node
	form        []uint64
	depth, cost int // of the form
	hash        uint64
}

func knowns() []known {
	leaf, empty, null := structOf(words(5)), structOf(nil), api.Node{}
	return []known{
		{null, words(0), 0, 0, 0xa8c7f832281a39c5},
		{empty, words(0x00000000fffffffc), 1, 0, 0x67d2a2c0993cad02},
		{leaf, words(0x0000000100000000, 5), 1, 1, 0x35ec46fde5634d51},
		{structOf(words(0, math.MaxUint64)), words(0x0000000200000000, 0, 0xffffffffffffffff), 1, 2, 0xb342a4bc71cf531f},
		{structOf(nil, null, empty), words(0x0002000000000000, 0, 0x00000000fffffffc), 2, 2, 0x4ac591b3d459f690},
		{structOf(words(7), leaf, leaf), words(0x0002000100000000, 7, 0x0000000100000004, 0x0000000100000004, 5, 5), 2, 5, 0xe17ff4c16c6a4ce1},
		{plain(api.ElemVoid, 3), words(0x0000001800000001), 1, 0, 0x894d51f132349d3c},
		{plain(api.ElemBit, 9, 0xff, 1), words(0x0000004900000001, 0x1ff), 1, 1, 0xe7d92135541c639d},
		{plain(api.ElemByte, 3, 1, 2, 3), words(0x0000001a00000001, 0x030201), 1, 1, 0xa8338a8b2364c42e},
		{plain(api.ElemTwo, 2, 0, 0, 0, 0), words(0x0000001300000001, 0), 1, 1, 0x6d24ced80b388147},
		{plain(api.ElemFour, 3, 1, 0, 0, 0, 2, 0, 0, 0, 3, 0, 0, 0), words(0x0000001c00000001, 0x0000000200000001, 3), 1, 2, 0xe33e0c340f0b5438},
		{plain(api.ElemEight, 1, 8, 7, 6, 5, 4, 3, 2, 1), words(0x0000000d00000001, 0x0102030405060708), 1, 1, 0x57ab7991049ddc19},
		{listOf(api.ElemPointer), words(0x0000000600000001), 1, 0, 0x49d7d91870bf7682},
		{listOf(api.ElemPointer, null, leaf), words(0x0000001600000001, 0, 0x0000000100000000, 5), 2, 3, 0x17eb772b9eeca166},
		{listOf(api.ElemComposite), words(0x0000000700000001, 0), 1, 1, 0x43de8650f31c1373},
		{listOf(api.ElemComposite, empty, empty), words(0x0000000700000001, 8), 1, 3, 0x3bb4be994a96647b},
		{listOf(api.ElemComposite, leaf, structOf(nil, leaf)), words(0x0000002700000001, 0x0001000100000008, 5, 0, 0, 0x0000000100000000, 5), 2, 6, 0xe3fc5204fcaf50c2},
	}
}

// P19.1 and P19.2: known hashes and sizes.

// The example of the chapter.
func TestANullRootHasTheHashOfEightZeroBytes(t *testing.T) {
	want := fnv.Sum(make([]byte, 8))
	for _, segs := range [][][]uint64{
		message(words(0)),
		message(words(0, capability), words(reserved)),
		message(nil),
		message(words(), words(capability)),
		message(words(single(1, 1)), words(9, 0)),
		message(words(double(1, 0)), words(single(9, 9), 0)),
	} {
		if got, err := hash.Message(segs, ample); got != want || err != api.OK {
			t.Errorf("Message(%s) = %x, %d, want %x", brief(segs), got, err, want)
		}
		checkExactly(t, segs, 0, 0, 0)
		check(t, segs, api.Limits{Depth: -1, Words: -1, Out: -1}, 0)
		check(t, segs, api.Limits{Depth: math.MinInt, Words: math.MinInt}, 0)
	}
}

func TestKnownHashes(t *testing.T) {
	for _, x := range knowns() {
		if got := hash.Node(x.node); got != x.hash {
			t.Errorf("Node(%s) = %x, want %x", brief(x.node), got, x.hash)
		}
		for _, segs := range [][][]uint64{
			message(x.form),
			message(append(slices.Clone(x.form), 9), words(9)),
			message(words(single(1, 1)), append(words(9), x.form...)),
		} {
			if got, err := hash.Message(segs, ample); got != x.hash || err != api.OK {
				t.Errorf("Message(%s) = %x, %d, want %x", brief(segs), got, err, x.hash)
			}
			checkExactly(t, segs, x.depth, x.cost, x.form...)
		}
	}
}

// Each known node below other objects, with which the hash is another one.
func TestKnownNodesBelowOthers(t *testing.T) {
	r := rand.New(rand.NewSource(1))
	for _, x := range knowns() {
		for _, n := range []api.Node{
			structOf(words(5), x.node, structOf(nil)),
			listOf(api.ElemPointer, x.node, x.node, api.Node{}),
			listOf(api.ElemComposite, structOf(words(5)), structOf(nil, structOf(nil), x.node)),
		} {
			form := canonwrite.Write(trim.Trim(n))
			checkNode(t, trim.Trim(n), form...)
			for range 20 {
				segs, cost := layout(r, n)
				checkExactly(t, segs, node.Depth(n), cost, form...)
			}
		}
	}
}

// What the canonical form leaves out is neither hashed nor counted.
func TestOtherLayoutsOfKnownForms(t *testing.T) {
	const full = math.MaxUint64
	for _, x := range []struct {
		words       []uint64
		depth, cost int
		form        []uint64
	}{
		{words(structTo(1, 0, 0), 5), 1, 0, words(emptyStruct)},
		{words(structTo(0, 2, 2), 0, 0, 0, 0), 1, 4, words(emptyStruct)},
		{words(0x0000000200000000, 5, 0), 1, 2, words(0x0000000100000000, 5)},
		{words(structTo(2, 3, 0), 8, 9, 0, 5, 0, 9), 1, 3, words(structTo(0, 2, 0), 0, 5)},
		{words(structTo(0, 1, 1), 5, 0), 1, 2, words(structTo(0, 1, 0), 5)},
		{words(structTo(0, 0, 2), structTo(3, 1, 0), structTo(0, 2, 0), 6, 7, 5), 2, 5,
			words(structTo(0, 0, 2), structTo(1, 1, 0), structTo(1, 2, 0), 5, 6, 7)},
		// An object with several pointers becomes several objects, and so does one that overlaps another.
		{words(structTo(0, 0, 2), structTo(1, 1, 0), structTo(0, 2, 0), 5, 0), 2, 5,
			words(structTo(0, 0, 2), structTo(1, 1, 0), structTo(1, 1, 0), 5, 5)},
		{words(structTo(-1, 1, 0)), 1, 1, words(structTo(0, 1, 0), structTo(-1, 1, 0))},
		{words(listTo(0, 0, api.MaxCount)), 1, 0, words(0xfffffff800000001)},
		{words(listTo(0, 1, 9), full), 1, 1, words(listTo(0, 1, 9), 0x1ff)},
		{words(listTo(1, 2, 3), 9, full, 9), 1, 1, words(listTo(0, 2, 3), 0xffffff)},
		{words(listTo(0, 5, 2), 0, 0), 1, 2, words(listTo(0, 5, 2), 0, 0)},
		{words(listTo(0, 6, 3), 0, structTo(2, 2, 0), 0, 9, 5, 0), 2, 5, words(listTo(0, 6, 3), 0, structTo(1, 1, 0), 0, 5)},
		{words(listTo(0, 7, 0), structTo(0, 3, 4)), 1, 1, words(listTo(0, 7, 0), 0)},
		{words(listTo(0, 7, 4), structTo(2, 1, 1), 0, 0, 0, 0), 1, 5, words(listTo(0, 7, 0), structTo(2, 0, 0))},
		{words(listTo(0, 7, 6), structTo(2, 2, 1), 5, 0, 0, 6, 0, 0), 1, 7, words(listTo(0, 7, 2), structTo(2, 1, 0), 5, 6)},
		{words(listTo(0, 7, 3), structTo(1, 1, 0), 5, capability, reserved), 1, 4, words(listTo(0, 7, 1), structTo(1, 1, 0), 5)},
	} {
		checkExactly(t, message(x.words), x.depth, x.cost, x.form...)
		checkExactly(t, message(words(single(1, 0)), x.words), x.depth, x.cost, x.form...)
	}
}

func TestTheLargestStruct(t *testing.T) {
	const size = 65535
	form := make([]uint64, 1+2*size)
	form[0] = structTo(0, size, size)
	checkExactly(t, message(form), 1, 2*size, emptyStruct)
	form[size], form[2*size] = 5, emptyStruct
	checkExactly(t, message(form), 2, 2*size, form...)
	checkExactly(t, message(words(double(1, 1)), words(capability, single(2, 0), form[0]), form[1:]), 2, 2*size, form...)
	n := structOf(form[1:1+size], make([]api.Node, size)...)
	n.Kids[size-1] = structOf(nil)
	checkNode(t, n, form...)
}

// Many pointers to one object make a form that is much larger than the message.
func TestLargeForms(t *testing.T) {
	const pointers, size = 30, 65535
	large := structOf(make([]uint64, size))
	large.Data[len(large.Data)-1] = 1
	seg, form, kids := words(listTo(0, 6, pointers)), words(listTo(0, 6, pointers)), []api.Node(nil)
	for i := range pointers {
		seg = append(seg, structTo(pointers-1-i, size, 0))
		form = append(form, structTo(pointers-1-i+i*size, size, 0))
		kids = append(kids, large)
	}
	object := structure(large.Data, size)
	seg = append(seg, object...)
	for range pointers {
		form = append(form, object...)
	}
	checkExactly(t, message(seg), 2, pointers*(size+1), form...)
	checkNode(t, listOf(api.ElemPointer, kids...), form...)
}

// The largest budget for which the functions are specified is used up by 127 pointers to a list,
// most of whose words belong to no element.
func TestTheLargestBudget(t *testing.T) {
	const pointers, size = 127, maxBudget/127 - 1
	seg, form := words(listTo(0, 6, pointers)), words(listTo(0, 6, pointers))
	for i := range pointers {
		seg = append(seg, listTo(pointers-1-i, 7, size-1))
		form = append(form, listTo(pointers-1+i, 7, 1))
	}
	for range pointers {
		form = append(form, structTo(1, 1, 0), 5)
	}
	seg = append(append(seg, structTo(1, 1, 0), 5), make([]uint64, size-2)...)
	checkExactly(t, message(seg), 2, pointers+pointers*size, form...)
	if pointers+pointers*size != maxBudget {
		t.Errorf("the cost is %d", pointers+pointers*size)
	}
}

func TestChainsOfEveryKind(t *testing.T) {
	r := rand.New(rand.NewSource(2))
	wraps := []func(api.Node) api.Node{
		func(n api.Node) api.Node { return structOf(nil, n) },
		func(n api.Node) api.Node { return listOf(api.ElemPointer, n, api.Node{}) },
		func(n api.Node) api.Node {
			return listOf(api.ElemComposite, structOf(words(7)), structOf(nil, api.Node{}, n))
		},
	}
	// Chains of each kind, and one of all kinds by turns.
	for kind := range len(wraps) + 1 {
		n := structOf(words(5))
		for depth := 1; depth <= maxDepth; depth++ {
			if depth < 5 || depth > maxDepth-2 || depth%300 == 0 {
				form := canonwrite.Write(n)
				segs, cost := layout(r, n)
				checkExactly(t, segs, depth, cost, form...)
				checkNode(t, n, form...)
			}
			if kind < len(wraps) {
				n = wraps[kind](n)
			} else {
				n = wraps[depth%len(wraps)](n)
			}
		}
		segs, _ := layout(r, n)
		checkError(t, segs, api.Limits{Depth: maxDepth, Words: maxBudget}, api.ErrDepth)
	}
}

// P19.1 and P19.2: errors.

// Each message has a pointer with an error. It is checked as the root, and as the last pointer of
// other objects.
func TestErrors(t *testing.T) {
	for _, x := range []struct {
		segs [][]uint64
		want api.Errno
	}{
		{message(words(capability)), api.ErrCapability},
		{message(words(0x0000000500000003)), api.ErrCapability},
		{message(words(reserved)), api.ErrKind},
		{message(words(math.MaxUint64)), api.ErrKind},
		{message(words(structTo(0, 1, 0))), api.ErrBounds},
		{message(words(structTo(-100, 0, 0))), api.ErrBounds},
		{message(words(listTo(0, 1, 65), 0)), api.ErrBounds},
		{message(words(listTo(0, 7, 0))), api.ErrBounds},
		{message(words(single(1, 0))), api.ErrBounds},
		{message(words(double(1, 0)), words(single(0, 0))), api.ErrBounds},
		{message(words(single(1, 0)), words(single(1, 0))), api.ErrFar},
		{message(words(double(1, 0)), words(0, structTo(0, 0, 0))), api.ErrFar},
		{message(words(single(1, 0)), words(capability)), api.ErrCapability},
		{message(words(single(1, 0)), words(reserved)), api.ErrKind},
		{message(words(listTo(0, 7, 1), structTo(2, 1, 0), 0)), api.ErrTag},
		{message(words(listTo(0, 7, 1), listTo(1, 2, 0), 0)), api.ErrTag},
		{message(words(structTo(-1, 0, 1))), api.ErrDepth},
		{message(words(single(1, 0)), words(structTo(0, 0, 1), single(1, 0))), api.ErrDepth},
	} {
		for _, before := range [][]uint64{nil, {structTo(0, 1, 2), 5, 0}, {listTo(0, 6, 2), emptyStruct}, {listTo(0, 7, 4), structTo(2, 1, 1), 5, 0, 5}} {
			segs := slices.Clone(x.segs)
			segs[0] = slices.Concat(before, segs[0])
			checkError(t, segs, ample, x.want)
		}
	}
}

func TestMessagesWithoutSegments(t *testing.T) {
	for _, l := range []api.Limits{{}, ample, {Depth: -1, Words: -1}} {
		checkError(t, nil, l, api.ErrBounds)
		checkError(t, message(), l, api.ErrBounds)
	}
}

func TestLimits(t *testing.T) {
	leaf, nested := message(words(structTo(0, 1, 0), 5)), message(words(structTo(0, 0, 1), structTo(0, 1, 0), 5))
	for _, x := range []struct {
		segs [][]uint64
		l    api.Limits
		want api.Errno
	}{
		{leaf, api.Limits{}, api.ErrDepth},
		{leaf, api.Limits{Depth: math.MinInt, Words: maxBudget}, api.ErrDepth},
		{leaf, api.Limits{Depth: 1}, api.ErrBudget},
		{leaf, api.Limits{Depth: 1, Words: math.MinInt}, api.ErrBudget},
		{nested, api.Limits{Depth: 1, Words: 1}, api.ErrDepth},
		{nested, api.Limits{Depth: 2, Words: 1}, api.ErrBudget},
		// Words that the form leaves out are charged.
		{message(words(structTo(0, 1, 1), 5, 0)), api.Limits{Depth: 1, Words: 1}, api.ErrBudget},
		{message(words(listTo(0, 7, 0), structTo(1<<28-1, 0, 0))), api.Limits{Depth: 1, Words: maxBudget}, api.ErrBudget},
	} {
		checkError(t, x.segs, x.l, x.want)
	}
	// Objects without words and null pointers are not charged; the output limit is of no account.
	check(t, message(words(emptyStruct)), api.Limits{Depth: 1, Words: -1, Out: -1}, emptyStruct)
	check(t, message(words(listTo(0, 0, 7))), api.Limits{Depth: 1}, listTo(0, 0, 7))
	check(t, message(words(structTo(0, 0, 1), 0)), api.Limits{Depth: 1, Words: 1}, emptyStruct)
}

// P19.1 and P19.2: all of it, against known nodes and against layers 12, 14 and 15.

func TestRandomNodes(t *testing.T) {
	r := rand.New(rand.NewSource(3))
	changed := 0
	for range 10000 {
		n := random(r, 1+r.Intn(4))
		trimmed := trim.Trim(n)
		form := canonwrite.Write(trimmed)
		checkNode(t, trimmed, form...)
		segs, cost := layout(r, n)
		checkExactly(t, segs, node.Depth(n), cost, form...)
		if len(form) > 20 && !slices.Equal(segs[0], form) {
			changed++
		}
	}
	if changed < 1000 {
		t.Errorf("only %d messages are large and not canonical", changed)
	}
}

func TestEverySmallMessage(t *testing.T) {
	choice := words(0, 5, capability, emptyStruct, structTo(0, 1, 0), structTo(0, 0, 1), structTo(0, 1, 1), structTo(-1, 0, 1),
		listTo(0, 1, 3), listTo(0, 6, 2), listTo(0, 7, 1), listTo(0, 7, 0), single(0, 1), single(1, 0), double(0, 1))
	limits := []api.Limits{{}, {Depth: 1}, {Depth: 1, Words: 2}, {Depth: 2, Words: 3}, {Depth: 5, Words: 1000}}
	for _, a := range choice {
		for _, b := range choice {
			for _, c := range choice {
				for _, l := range limits {
					checkDefinition(t, message(words(a, b, c)), l)
					checkDefinition(t, message(words(a), words(b, c)), l)
				}
			}
		}
	}
}

func TestRandomMessages(t *testing.T) {
	r := rand.New(rand.NewSource(4))
	outcomes := map[api.Errno]int{}
	for range 50000 {
		l := api.Limits{Depth: r.Intn(8), Words: r.Intn(1 << r.Intn(9))}
		outcomes[checkDefinition(t, randomMessage(r), l)]++
	}
	for err := api.OK; err <= api.ErrBudget; err++ {
		if err != api.ErrFrame && outcomes[err] < 100 {
			t.Errorf("only %d messages with the error %d", outcomes[err], err)
		}
	}
}

// P19.3

// checkPair checks the hashes of two messages against layer 17. It returns whether the messages are
// equal, and whether both have a denotation.
func checkPair(t *testing.T, a, b [][]uint64) (isEqual, ok bool) {
	t.Helper()
	l := api.Limits{Depth: 100, Words: 1 << 12}
	isEqual, err := equal.Messages(a, b, l)
	if err != api.OK {
		return false, false
	}
	one, oneErr := hash.Message(a, l)
	other, otherErr := hash.Message(b, l)
	if oneErr != api.OK || otherErr != api.OK {
		t.Fatalf("%s and %s have the errors %d and %d", brief(a), brief(b), oneErr, otherErr)
	}
	// Different messages may have equal hashes, but those of these tests do not.
	if isEqual != (one == other) {
		t.Fatalf("%s and %s have the hashes %x and %x", brief(a), brief(b), one, other)
	}
	return isEqual, true
}

func TestLayoutsOfANodeHaveTheSameHash(t *testing.T) {
	r := rand.New(rand.NewSource(5))
	for range 2000 {
		n := random(r, 4)
		trimmed := trim.Trim(n)
		form := message(canonwrite.Write(trimmed))
		for range 5 {
			segs, _ := layout(r, n)
			if isEqual, ok := checkPair(t, form, segs); !isEqual || !ok {
				t.Fatalf("%s and %s are different or have an error", brief(form), brief(segs))
			}
			if got, _ := hash.Message(segs, ample); got != hash.Node(trimmed) {
				t.Fatalf("%s has the hash %x, its node %x", brief(segs), got, hash.Node(trimmed))
			}
		}
	}
}

func TestMessagesThatDifferInABit(t *testing.T) {
	r := rand.New(rand.NewSource(6))
	same, different := 0, 0
	for range 2000 {
		segs, _ := layout(r, random(r, 3))
		for range 20 {
			i := r.Intn(len(segs))
			if len(segs[i]) == 0 {
				continue
			}
			other := slices.Clone(segs)
			other[i] = slices.Clone(segs[i])
			other[i][r.Intn(len(segs[i]))] ^= 1 << r.Intn(64)
			if isEqual, ok := checkPair(t, segs, other); isEqual {
				same++
			} else if ok {
				different++
			}
		}
	}
	if same < 1000 || different < 1000 {
		t.Errorf("only %d equal and %d different pairs", same, different)
	}
}

// Neither do two of many forms have the same hash nor do two hashes belong to the same form.
func TestHashesAndFormsCorrespond(t *testing.T) {
	r := rand.New(rand.NewSource(7))
	forms, hashes, again := map[uint64]string{}, map[string]uint64{}, 0
	for range 50000 {
		segs := randomMessage(r)
		if r.Intn(2) == 0 {
			segs, _ = layout(r, random(r, r.Intn(3)))
		}
		list, err := canon.Words(segs, ample)
		if err != api.OK {
			continue
		}
		form := fmt.Sprint(list)
		h, _ := hash.Message(segs, ample)
		if _, ok := forms[h]; ok {
			again++
		} else {
			forms[h] = form
		}
		if _, ok := hashes[form]; !ok {
			hashes[form] = h
		}
		if forms[h] != form || hashes[form] != h {
			t.Fatalf("%s has the form %s and the hash %x", brief(segs), brief(list), h)
		}
	}
	if again < 5000 || len(forms) < 5000 {
		t.Errorf("only %d different hashes, %d equal ones", len(forms), again)
	}
}

// P19.4

// spare returns a copy of a message in which each slice has unused capacity, which is not zero.
func spare(segs [][]uint64) [][]uint64 {
	list := make([][]uint64, 0, len(segs)+1)
	for _, seg := range segs {
		list = append(list, append(slices.Clone(seg), 0xa5a5, 0xa5a5)[:len(seg)])
	}
	return append(list, words(0xa5a5))[:len(segs)]
}

// memory writes all of a message, with its unused capacity.
func memory(segs [][]uint64) string {
	s := fmt.Sprint(len(segs))
	for _, seg := range segs[:cap(segs)] {
		s += fmt.Sprint(len(seg), seg[:cap(seg)])
	}
	return s
}

func TestMessagesAreNotModified(t *testing.T) {
	r := rand.New(rand.NewSource(8))
	for range 500 {
		n := random(r, 4)
		segs, _ := layout(r, n)
		for _, m := range [][][]uint64{segs, message(canonwrite.Write(trim.Trim(n))), randomMessage(r), message(words(structTo(0, 0, 2), 0, capability)), message(nil, words(1)), nil} {
			m = spare(m)
			before := memory(m)
			for _, l := range []api.Limits{ample, {Depth: 2, Words: 100}, {Depth: 100, Words: 5}} {
				hash.Message(m, l)
				hash.Size(m, l)
				if memory(m) != before {
					t.Fatalf("%s became %s", before, memory(m))
				}
			}
		}
	}
}

// withSpare returns a copy of n in which each slice has unused capacity, which is not zero.
func withSpare(n api.Node) api.Node {
	n.Data = append(slices.Clone(n.Data), 0xa5, 0xa5)[:len(n.Data)]
	kids := make([]api.Node, 0, len(n.Kids)+1)
	for _, kid := range n.Kids {
		kids = append(kids, withSpare(kid))
	}
	n.Kids = append(kids, structOf(words(0xa5a5)))[:len(n.Kids)]
	return n
}

// nodeMemory writes all of a node, with its unused capacity.
func nodeMemory(n api.Node) string {
	s := fmt.Sprint(n.Kind, n.Elem, n.N, len(n.Data), n.Data[:cap(n.Data)], len(n.Kids))
	for _, kid := range n.Kids[:cap(n.Kids)] {
		s += nodeMemory(kid)
	}
	return s
}

func TestNodesAreNotModified(t *testing.T) {
	r := rand.New(rand.NewSource(9))
	for range 1000 {
		n := withSpare(trim.Trim(random(r, 4)))
		before := nodeMemory(n)
		checkNode(t, n, canonwrite.Write(n)...)
		if nodeMemory(n) != before {
			t.Fatalf("%.400s became %.400s", before, nodeMemory(n))
		}
	}
}

// Calls do not depend on those before them, in particular on those that end with an error.
func TestResultsDependOnArgumentsOnly(t *testing.T) {
	segs := message(words(structTo(0, 2, 1), 5, 0, listTo(0, 2, 1), 0x207))
	for range 3 {
		checkExactly(t, segs, 2, 4, structTo(0, 1, 1), 5, listTo(0, 2, 1), 7)
		checkError(t, message(words(structTo(-1, 0, 1))), ample, api.ErrDepth)
		checkError(t, nil, ample, api.ErrBounds)
	}
}

// P1: the promises leave larger limits and other nodes open, but the functions terminate.

func TestLimitsThatAreLeftOpen(t *testing.T) {
	for _, segs := range [][][]uint64{
		message(words(listTo(0, 7, 0), structTo(api.MaxCount, 0, 0))),
		message(words(listTo(0, 7, 0), structTo(1<<28-1, 0, 0))),
		message(words(structTo(-1, 0, 1))),
		message(words(single(1, 0)), words(structTo(0, 0, 1), single(1, 0))),
	} {
		for _, budget := range []int{1 << 28, 1 << 40, math.MaxInt} {
			for _, depth := range []int{1, maxDepth + 1, math.MaxInt} {
				l := api.Limits{Depth: depth, Words: budget}
				h, err := hash.Message(segs, l)
				size, sizeErr := hash.Size(segs, l)
				if h != 0 || size != 0 || err == api.OK || err != sizeErr {
					t.Errorf("%s, %+v: %x, %d and %d, %d", brief(segs), l, h, err, size, sizeErr)
				}
			}
		}
	}
	check(t, message(words(structTo(0, 2, 0), 5, 0)), api.Limits{Depth: 1, Words: maxBudget + 1}, structTo(0, 1, 0), 5)
	check(t, message(words(structTo(0, 2, 0), 5, 0)), api.Limits{Depth: math.MaxInt, Words: math.MaxInt}, structTo(0, 1, 0), 5)
}

func TestNoPanicForOtherNodes(t *testing.T) {
	for kind := -1; kind < 4; kind++ {
		for elem := -1; elem < 9; elem++ {
			for _, n := range []int{math.MinInt, -1, 0, 1, 2, 1000, math.MaxInt} {
				for _, data := range [][]byte{nil, {1}, make([]byte, 9)} {
					x := api.Node{Kind: kind, Elem: elem, N: n, Data: data}
					hash.Node(x)
					x.Kids = []api.Node{x, {}, structOf(words(0))}
					hash.Node(x)
				}
			}
		}
	}
}
