package canonwrite_test

import (
	"bytes"
	"encoding/binary"
	"fmt"
	"math"
	"math/rand"
	"slices"
	"testing"

	"capnp/api"
	"capnp/canonsize"
	"capnp/canonwrite"
	"capnp/denote"
	"capnp/node"
	"capnp/trim"
)

const (
	maxDepth   = 1000
	maxSection = 65535
)

// structTo returns the word of a struct pointer.
func structTo(offset, data, ptrs int) uint64 {
	return uint64(ptrs)<<48 | uint64(data)<<32 | uint64(uint32(offset)<<2)
}

// listTo returns the word of a list pointer.
func listTo(offset, elem, count int) uint64 {
	return uint64(count)<<35 | uint64(elem)<<32 | uint64(uint32(offset)<<2) | 1
}

// emptyStruct is the word of a pointer to a struct without words.
const emptyStruct = 0x00000000fffffffc

// structOf returns a struct with the given data words.
func structOf(words []uint64, kids ...api.Node) api.Node {
	n := api.Node{Kind: api.NodeStruct, Kids: kids}
	for _, w := range words {
		n.Data = binary.LittleEndian.AppendUint64(n.Data, w)
	}
	return n
}

// data returns its arguments, as the data words of a struct.
func data(words ...uint64) []uint64 { return words }

// pointersTo returns a list of pointers.
func pointersTo(kids ...api.Node) api.Node {
	return api.Node{Kind: api.NodeList, Elem: api.ElemPointer, N: len(kids), Kids: kids}
}

// composite returns a composite list.
func composite(elements ...api.Node) api.Node {
	return api.Node{Kind: api.NodeList, Elem: api.ElemComposite, N: len(elements), Kids: elements}
}

// plain returns a list that is neither of pointers nor composite.
func plain(elem, n int, data ...byte) api.Node {
	return api.Node{Kind: api.NodeList, Elem: elem, N: n, Data: data}
}

// numbered returns a list that is neither of pointers nor composite, whose bits are not all zero.
func numbered(elem, n int) api.Node {
	bits := []int{0, 1, 8, 16, 32, 64}[elem] * n
	list := plain(elem, n, make([]byte, (bits+7)/8)...)
	for i := range list.Data {
		list.Data[i] = byte(i%251 + 1)
	}
	if used := bits % 8; used > 0 {
		list.Data[len(list.Data)-1] = 1<<used - 1
	}
	return list
}

// short writes words, but no more than a few hundred characters.
func short(words []uint64) string {
	if len(words) > 20 {
		return fmt.Sprintf("%x... (%d words)", words[:20], len(words))
	}
	return fmt.Sprintf("%x", words)
}

// brief writes n, but no more than a few hundred characters.
func brief(n api.Node) string {
	s := fmt.Sprintf("(%d %d %d %x", n.Kind, n.Elem, n.N, n.Data[:min(len(n.Data), 100)])
	for _, kid := range n.Kids {
		if len(s) > 300 {
			return s + "..."
		}
		s += brief(kid)
	}
	return s + ")"
}

// checkWords compares the form of n with the wanted one.
func checkWords(t *testing.T, name string, n api.Node, got, want []uint64) {
	t.Helper()
	if slices.Equal(got, want) {
		return
	}
	at := 0
	for at < min(len(got), len(want)) && got[at] == want[at] {
		at++
	}
	t.Fatalf("%s: %s\n is written as %s\n and not as   %s\n from word %d on: %s, not %s", name, brief(n), short(got), short(want), at, short(got[at:]), short(want[at:]))
}

// check checks the form of a node that is in the domain of the promises, and the consequences.
func check(t *testing.T, name string, n api.Node, want ...uint64) {
	t.Helper()
	if !node.Valid(n) || !node.Equal(trim.Trim(n), n) {
		t.Fatalf("%s: not well-formed or not trimmed: %s", name, brief(n))
	}
	got := canonwrite.Write(n)
	checkWords(t, name, n, got, want)
	checkConsequences(t, name, n, got)
}

// checkOracle checks the form of a node against the definition, and the consequences.
func checkOracle(t *testing.T, name string, n api.Node) {
	t.Helper()
	check(t, name, n, form(n)...)
}

// checkConsequences checks what P14.2 says about a single form.
func checkConsequences(t *testing.T, name string, n api.Node, words []uint64) {
	t.Helper()
	if want := canonsize.Total(n); len(words) != want {
		t.Fatalf("%s: %s has %d words, not %d", name, brief(n), len(words), want)
	}
	l := api.Limits{Depth: node.Depth(n), Words: 1 << 40}
	if got, err := denote.Message([][]uint64{words}, l); err != api.OK || !node.Equal(got, n) {
		t.Fatalf("%s: the form %s of %s denotes %s, %d", name, short(words), brief(n), brief(got), err)
	}
}

// form returns the canonical form of n as the chapter defines it: it lists the objects in preorder,
// then adds up where they are, and then writes their words.
func form(n api.Node) []uint64 {
	o := &oracle{}
	o.list(n)
	index := 1
	for i := range o.objects {
		o.objects[i].index = index
		index += len(o.objects[i].words)
	}
	root := o.point(0)
	result := []uint64{root(0)}
	for i, object := range o.objects {
		for at, pointer := range object.pointers {
			object.words[at] = pointer(o.objects[i].index + at)
		}
		result = append(result, object.words...)
	}
	return result
}

// An object of the oracle has its words, of which the pointers are set at last, by functions of
// their index.
type object struct {
	n        api.Node
	index    int
	words    []uint64
	pointers map[int]func(index int) uint64
}

type oracle struct {
	objects []*object
}

// list adds the objects of n in preorder.
func (o *oracle) list(n api.Node) {
	added := &object{n: n, pointers: map[int]func(int) uint64{}}
	o.objects = append(o.objects, added)
	if n.Kind == api.NodeList && n.Elem == api.ElemComposite {
		d, p := o.uniform(n)
		added.words = append(added.words, structTo(n.N, d, p))
		for _, element := range n.Kids {
			added.words = append(added.words, o.words(element.Data)...)
			added.words = append(added.words, make([]uint64, d-len(element.Data)/8)...)
			o.reserve(added, element.Kids)
			added.words = append(added.words, make([]uint64, p-len(element.Kids))...)
		}
		for _, element := range n.Kids {
			o.visit(element.Kids)
		}
		return
	}
	added.words = o.words(n.Data)
	o.reserve(added, n.Kids)
	o.visit(n.Kids)
}

// visit lists the kids, and gives the first pointer that waits for one its object.
func (o *oracle) visit(kids []api.Node) {
	for _, kid := range kids {
		if kid.Kind != api.NodeNull {
			o.list(kid)
		}
	}
}

// reserve adds pointers to kids to the words of an object. The number of the object that a pointer
// refers to is found by counting.
func (o *oracle) reserve(parent *object, kids []api.Node) {
	for _, kid := range kids {
		if kid.Kind != api.NodeNull {
			order := len(parent.pointers)
			parent.pointers[len(parent.words)] = func(index int) uint64 { return o.point(o.kid(parent, order))(index) }
		}
		parent.words = append(parent.words, 0)
	}
}

// kid returns the number of the object that the given pointer of parent that is not null refers to:
// the objects of the pointers before it come between them.
func (o *oracle) kid(parent *object, order int) int {
	i := slices.Index(o.objects, parent) + 1
	for range order {
		i += node.Objects(o.objects[i].n)
	}
	return i
}

// point returns the function that returns the word of a pointer to the given object.
func (o *oracle) point(i int) func(index int) uint64 {
	target := o.objects[i]
	n := target.n
	return func(index int) uint64 {
		offset := target.index - index - 1
		switch {
		case n.Kind == api.NodeNull:
			return 0
		case n.Kind == api.NodeStruct && len(target.words) == 0:
			return structTo(-1, 0, 0)
		case n.Kind == api.NodeStruct:
			return structTo(offset, len(n.Data)/8, len(n.Kids))
		case n.Elem == api.ElemComposite:
			return listTo(offset, n.Elem, len(target.words)-1)
		}
		return listTo(offset, n.Elem, n.N)
	}
}

// uniform returns the largest numbers of data words and of pointers of elements.
func (o *oracle) uniform(n api.Node) (d, p int) {
	for _, element := range n.Kids {
		d, p = max(d, len(element.Data)/8), max(p, len(element.Kids))
	}
	return d, p
}

// words returns the words of bytes; the last one may be incomplete.
func (o *oracle) words(b []byte) []uint64 {
	list := make([]uint64, (len(b)+7)/8)
	for i, x := range b {
		list[i/8] |= uint64(x) << (i % 8 * 8)
	}
	return list
}

// random returns a node with a nesting of at most depth.
func random(r *rand.Rand, depth int) api.Node {
	kinds := 5
	if depth == 0 {
		kinds = 1
	}
	switch r.Intn(kinds) {
	case 1:
		return randomStruct(r, depth)
	case 2:
		return pointersTo(several(r, func() api.Node { return random(r, depth-1) })...)
	case 3:
		return composite(several(r, func() api.Node { return randomStruct(r, depth) })...)
	case 4:
		return randomPlain(r)
	}
	return api.Node{}
}

func randomStruct(r *rand.Rand, depth int) api.Node {
	words := make([]uint64, r.Intn(4))
	for i := range words {
		words[i] = r.Uint64() * uint64(r.Intn(2))
	}
	return trim.Trim(structOf(words, several(r, func() api.Node { return random(r, depth-1) })...))
}

func randomPlain(r *rand.Rand) api.Node {
	list := numbered(r.Intn(6), r.Intn(100))
	for i := range max(0, len(list.Data)-1) {
		list.Data[i] = byte(r.Intn(256) * r.Intn(2))
	}
	return list
}

// several returns up to four nodes.
func several(r *rand.Rand, one func() api.Node) []api.Node {
	var list []api.Node
	for range r.Intn(5) {
		list = append(list, one())
	}
	return list
}

// wraps returns a function for each way in which an object is nested in another one.
func wraps() map[string]func(int, api.Node) api.Node {
	list := map[string]func(int, api.Node) api.Node{
		"structs":    func(_ int, n api.Node) api.Node { return structOf(nil, n) },
		"lists":      func(_ int, n api.Node) api.Node { return pointersTo(n, api.Node{}) },
		"composites": func(_ int, n api.Node) api.Node { return composite(structOf(data(7)), structOf(nil, api.Node{}, n)) },
		"fringed": func(i int, n api.Node) api.Node {
			return structOf(data(uint64(i+1)), api.Node{}, structOf(data(2)), n, numbered(api.ElemByte, 9))
		},
	}
	list["all of them"] = func(i int, n api.Node) api.Node {
		return list[[]string{"structs", "composites", "lists", "fringed"}[i%4]](i, n)
	}
	return list
}

// chain returns a node of the given depth.
func chain(depth int, wrap func(int, api.Node) api.Node) api.Node {
	n := structOf(data(3))
	for i := range depth - 1 {
		n = wrap(i, n)
	}
	return n
}

// P14.1: the example, null and structs.

func TestTheExample(t *testing.T) {
	n := api.Node{Kind: api.NodeStruct, Data: []byte{5, 0, 0, 0, 0, 0, 0, 0}}
	if got := canonwrite.Write(n); !slices.Equal(got, []uint64{0x0000000100000000, 5}) {
		t.Errorf("%x", got)
	}
}

func TestNull(t *testing.T) {
	check(t, "null", api.Node{}, 0)
	check(t, "null with empty slices", api.Node{Data: []byte{}, Kids: []api.Node{}}, 0)
}

func TestKnownStructs(t *testing.T) {
	null, empty, leaf := api.Node{}, structOf(nil), structOf(data(5))
	check(t, "without words", empty, 0x00000000fffffffc)
	check(t, "without words, with empty slices", api.Node{Kind: api.NodeStruct, Data: []byte{}, Kids: []api.Node{}}, emptyStruct)
	check(t, "two words", structOf(data(0, 0xfedcba9876543210)), 0x0000000200000000, 0, 0xfedcba9876543210)
	check(t, "kid", structOf(nil, leaf), 0x0001000000000000, 0x0000000100000000, 5)
	check(t, "empty kid", structOf(nil, empty), 0x0001000000000000, emptyStruct)
	check(t, "empty kids", structOf(nil, empty, empty, leaf, empty),
		structTo(0, 0, 4), emptyStruct, emptyStruct, structTo(1, 1, 0), emptyStruct, 5)
	check(t, "words and a kid", structOf(data(1, 2), leaf), structTo(0, 2, 1), 1, 2, structTo(0, 1, 0), 5)
	check(t, "null in front", structOf(data(1), null, null, leaf), structTo(0, 1, 3), 1, 0, 0, structTo(0, 1, 0), 5)
	check(t, "two kids", structOf(nil, leaf, structOf(data(6, 7))),
		structTo(0, 0, 2), structTo(1, 1, 0), structTo(1, 2, 0), 5, 6, 7)
	check(t, "null in between", structOf(nil, leaf, null, leaf),
		structTo(0, 0, 3), structTo(2, 1, 0), 0, structTo(1, 1, 0), 5, 5)
	check(t, "kid of a kid", structOf(data(1), structOf(data(2), structOf(data(3)))),
		structTo(0, 1, 1), 1, structTo(0, 1, 1), 2, structTo(0, 1, 0), 3)
	check(t, "preorder", structOf(data(1), structOf(data(2), structOf(data(3)), structOf(data(4))), structOf(data(5), structOf(data(6)))),
		structTo(0, 1, 2), 1, structTo(1, 1, 2), structTo(5, 1, 1), 2, structTo(1, 1, 0), structTo(1, 1, 0), 3, 4, 5, structTo(0, 1, 0), 6)
}

func TestStructsOfEverySmallSize(t *testing.T) {
	for words := range 12 {
		for pointers := range 12 {
			want := []uint64{structTo(0, words, pointers)}
			if words+pointers == 0 {
				want[0] = emptyStruct
			}
			var values []uint64
			for i := range words {
				values = append(values, uint64(i+1)<<(5*i))
			}
			want = append(want, values...)
			kids := make([]api.Node, pointers)
			want = append(want, make([]uint64, pointers)...)
			if pointers > 0 {
				kids[pointers-1] = structOf(nil)
				want[len(want)-1] = emptyStruct
			}
			check(t, "struct", structOf(values, kids...), want...)
		}
	}
}

func TestTheLargestStruct(t *testing.T) {
	words := make([]uint64, maxSection)
	kids := make([]api.Node, maxSection)
	want := make([]uint64, 1+2*maxSection)
	want[0] = 0xffffffff00000000
	for i := range words {
		words[i] = uint64(i+1) << (i % 48)
		want[1+i] = words[i]
		kids[i] = structOf(data(uint64(i) + 9))
		want[1+maxSection+i] = structTo(maxSection-1, 1, 0)
		want = append(want, uint64(i)+9)
	}
	check(t, "both sections", structOf(words, kids...), want...)
	check(t, "data", structOf(words), append([]uint64{0x0000ffff00000000}, words...)...)
}

// P14.1: lists.

func TestKnownLists(t *testing.T) {
	check(t, "void", plain(api.ElemVoid, 7), 0x0000003800000001)
	check(t, "bits", plain(api.ElemBit, 9, 0xff, 1), 0x0000004900000001, 0x1ff)
	check(t, "bytes", plain(api.ElemByte, 3, 1, 2, 3), 0x0000001a00000001, 0x030201)
	check(t, "more bytes", plain(api.ElemByte, 9, 1, 2, 3, 4, 5, 6, 7, 8, 9), 0x0000004a00000001, 0x0807060504030201, 9)
	check(t, "two bytes", plain(api.ElemTwo, 3, 1, 2, 3, 4, 5, 6), 0x0000001b00000001, 0x060504030201)
	check(t, "four bytes", plain(api.ElemFour, 1, 0, 0, 0, 0x80), 0x0000000c00000001, 0x80000000)
	check(t, "eight bytes", plain(api.ElemEight, 1, 8, 7, 6, 5, 4, 3, 2, 1), 0x0000000d00000001, 0x0102030405060708)
	check(t, "zeros are kept", plain(api.ElemByte, 17, make([]byte, 17)...), listTo(0, api.ElemByte, 17), 0, 0, 0)
	for elem := range api.ElemComposite {
		check(t, "no elements", plain(elem, 0), uint64(elem)<<32|1)
	}
}

func TestListsOfEverySmallCount(t *testing.T) {
	for elem, bits := range []int{0, 1, 8, 16, 32, 64} {
		for n := range 4 * 64 / max(bits, 1) {
			list := numbered(elem, n)
			want := make([]uint64, 1+(n*bits+63)/64)
			want[0] = listTo(0, elem, n)
			for i, b := range list.Data {
				want[1+i/8] |= uint64(b) << (i % 8 * 8)
			}
			check(t, "list", list, want...)
			check(t, "list in a list", pointersTo(list, structOf(data(1))),
				slices.Concat([]uint64{listTo(0, api.ElemPointer, 2), listTo(1, elem, n), structTo(len(want)-1, 1, 0)}, want[1:], data(1))...)
		}
	}
	for n := range 200 {
		check(t, "null pointers", pointersTo(make([]api.Node, n)...), append([]uint64{listTo(0, api.ElemPointer, n)}, make([]uint64, n)...)...)
	}
}

func TestTheLargestLists(t *testing.T) {
	check(t, "void", plain(api.ElemVoid, api.MaxCount), 0xfffffff800000001)
	check(t, "void in a struct", structOf(nil, plain(api.ElemVoid, api.MaxCount)), structTo(0, 0, 1), 0xfffffff800000001)
	for elem, n := range []int{api.MaxCount, 1 << 26, 1<<22 + 1, 1<<21 + 1, 1<<20 + 1, 1 << 20} {
		checkOracle(t, "list", numbered(elem, n))
	}
	pointers := make([]api.Node, 1<<17)
	checkOracle(t, "null pointers", pointersTo(pointers...))
	pointers[1<<17-1] = structOf(data(1))
	checkOracle(t, "null pointers and a struct", pointersTo(pointers...))
}

func TestListsOfPointers(t *testing.T) {
	null, empty, leaf := api.Node{}, structOf(nil), structOf(data(5))
	check(t, "null", pointersTo(null), 0x0000000e00000001, 0)
	check(t, "trailing null", pointersTo(leaf, null, null), listTo(0, 6, 3), structTo(2, 1, 0), 0, 0, 5)
	check(t, "empty structs", pointersTo(empty, empty), listTo(0, 6, 2), emptyStruct, emptyStruct)
	check(t, "structs", pointersTo(leaf, null, structOf(nil, leaf)),
		listTo(0, 6, 3), structTo(2, 1, 0), 0, structTo(1, 0, 1), 5, structTo(0, 1, 0), 5)
	check(t, "lists", pointersTo(pointersTo(null, null), plain(api.ElemByte, 1, 7), pointersTo(leaf)),
		listTo(0, 6, 3), listTo(2, 6, 2), listTo(3, api.ElemByte, 1), listTo(3, 6, 1), 0, 0, 7, structTo(0, 1, 0), 5)
}

// An object without words has the index of the word that is written next.
func TestObjectsWithoutWords(t *testing.T) {
	leaf, void, none := structOf(data(5)), plain(api.ElemVoid, 3), pointersTo()
	check(t, "at the end", structOf(data(1), void), structTo(0, 1, 1), 1, listTo(0, 0, 3))
	check(t, "several", pointersTo(void, none, void), listTo(0, 6, 3), listTo(2, 0, 3), listTo(1, 6, 0), listTo(0, 0, 3))
	check(t, "before others", pointersTo(void, leaf), listTo(0, 6, 2), listTo(1, 0, 3), structTo(0, 1, 0), 5)
	check(t, "behind others", pointersTo(leaf, void, leaf, none),
		listTo(0, 6, 4), structTo(3, 1, 0), listTo(3, 0, 3), structTo(2, 1, 0), listTo(2, 6, 0), 5, 5)
	check(t, "behind kids of others", pointersTo(structOf(nil, structOf(data(1, 2, 3))), none),
		listTo(0, 6, 2), structTo(1, 0, 1), listTo(4, 6, 0), structTo(0, 3, 0), 1, 2, 3)
	check(t, "in an element", composite(structOf(nil, void), structOf(nil, leaf), structOf(nil, void)),
		listTo(0, 7, 3), structTo(3, 0, 1), listTo(2, 0, 3), structTo(1, 1, 0), listTo(1, 0, 3), 5)
	check(t, "of every element size", structOf(nil, plain(0, 0), plain(1, 0), plain(2, 0), plain(3, 0), plain(4, 0), plain(5, 0), plain(6, 0)),
		structTo(0, 0, 7), listTo(6, 0, 0), listTo(5, 1, 0), listTo(4, 2, 0), listTo(3, 3, 0), listTo(2, 4, 0), listTo(1, 5, 0), listTo(0, 6, 0))
}

func TestCompositeLists(t *testing.T) {
	null, empty, leaf := api.Node{}, structOf(nil), structOf(data(5))
	check(t, "none", composite(), 0x0000000700000001, 0)
	check(t, "empty structs", composite(empty, empty), 0x0000000700000001, 8)
	check(t, "one word", composite(leaf), 0x0000000f00000001, 0x0000000100000004, 5)
	check(t, "words", composite(leaf, leaf, leaf), listTo(0, 7, 3), structTo(3, 1, 0), 5, 5, 5)
	check(t, "extended by words", composite(empty, structOf(data(1, 2)), leaf),
		listTo(0, 7, 6), structTo(3, 2, 0), 0, 0, 1, 2, 5, 0)
	check(t, "extended by pointers", composite(empty, structOf(nil, null, empty), structOf(nil, empty)),
		listTo(0, 7, 6), structTo(3, 0, 2), 0, 0, 0, emptyStruct, emptyStruct, 0)
	check(t, "sizes of several elements", composite(structOf(data(1, 2)), structOf(nil, null, leaf), structOf(data(3), leaf)),
		listTo(0, 7, 12), structTo(3, 2, 2),
		1, 2, 0, 0,
		0, 0, 0, structTo(4, 1, 0),
		3, 0, structTo(2, 1, 0), 0,
		5, 5)
	check(t, "kids of kids of elements", composite(structOf(nil, structOf(data(1), leaf), leaf), structOf(data(2), pointersTo(leaf))),
		listTo(0, 7, 6), structTo(2, 1, 2),
		0, structTo(4, 1, 1), structTo(6, 1, 0),
		2, listTo(5, 6, 1), 0,
		1, structTo(0, 1, 0), 5, 5, structTo(0, 1, 0), 5)
	check(t, "in a struct", structOf(nil, composite(leaf), leaf),
		structTo(0, 0, 2), listTo(1, 7, 1), structTo(2, 1, 0), structTo(1, 1, 0), 5, 5)
	check(t, "none in a struct", structOf(nil, composite(), leaf, composite(empty)),
		structTo(0, 0, 3), listTo(2, 7, 0), structTo(2, 1, 0), listTo(2, 7, 0), 0, 5, structTo(1, 0, 0))
	check(t, "nested", composite(structOf(nil, composite(leaf, empty)), structOf(data(9))),
		listTo(0, 7, 4), structTo(2, 1, 1), 0, listTo(2, 7, 2), 9, 0, structTo(2, 1, 0), 5, 0)
}

// All orders of all small sizes of three elements.
func TestUniformSizes(t *testing.T) {
	var elements []api.Node
	for words := range 3 {
		values := data(make([]uint64, words)...)
		for i := range values {
			values[i] = uint64(words)
		}
		elements = append(elements, structOf(values), structOf(values, structOf(nil)), structOf(values, api.Node{}, structOf(data(4))))
	}
	for _, a := range elements {
		for _, b := range elements {
			for _, c := range elements {
				checkOracle(t, "three elements", composite(a, b, c))
			}
		}
	}
}

// One large element extends all others.
func TestTheLargestUniformSize(t *testing.T) {
	kids := make([]api.Node, maxSection)
	kids[maxSection-1] = structOf(data(8))
	words := make([]uint64, maxSection)
	words[maxSection-1] = 1
	list := composite(structOf(nil), structOf(data(2)), structOf(words), structOf(nil, kids...), structOf(data(3), structOf(data(4))))
	checkOracle(t, "list", list)
	checkOracle(t, "twice", structOf(nil, list, list))
}

func TestManyElementsWithoutWords(t *testing.T) {
	elements := slices.Repeat([]api.Node{structOf(nil)}, 1<<19)
	check(t, "empty structs", composite(elements...), listTo(0, 7, 0), structTo(1<<19, 0, 0))
}

// P14.1: all objects at all depths.

func TestChains(t *testing.T) {
	for _, depth := range []int{1, 2, 3, 10, 100} {
		for name, wrap := range wraps() {
			checkOracle(t, name, chain(depth, wrap))
		}
	}
	for name, wrap := range wraps() {
		n := chain(maxDepth, wrap)
		if node.Depth(n) != maxDepth {
			t.Fatalf("%s: a chain of depth %d", name, node.Depth(n))
		}
		checkOracle(t, name, n)
	}
	want := append(slices.Repeat([]uint64{structTo(0, 0, 1)}, maxDepth-1), structTo(0, 1, 0), 3)
	check(t, "structs", chain(maxDepth, wraps()["structs"]), want...)
}

// Each occurrence of a value is an object of its own.
func TestKidsThatShareMemory(t *testing.T) {
	n := structOf(data(1))
	for range 10 {
		checkOracle(t, "tree", n)
		n = pointersTo(n, n)
	}
	n = structOf(data(1))
	for range 5 {
		checkOracle(t, "tree of composite lists", n)
		n = composite(structOf(nil, n, n), structOf(data(2)))
	}
}

func TestWideNodes(t *testing.T) {
	const n = 100000
	want := append([]uint64{listTo(0, 6, n)}, make([]uint64, n)...)
	kids := make([]api.Node, n)
	for i := range kids {
		kids[i] = structOf(data(uint64(i), 1))
		want[1+i] = structTo(n-1+i, 2, 0)
		want = append(want, uint64(i), 1)
	}
	check(t, "list of pointers", pointersTo(kids...), want...)
	want = []uint64{listTo(0, 7, 2*n), structTo(n, 2, 0)}
	check(t, "composite list", composite(kids...), append(want, canonwrite.Write(pointersTo(kids...))[1+n:]...)...)
	many := slices.Repeat([]api.Node{structOf(data(2), structOf(data(3))), structOf(nil), numbered(api.ElemBit, 65), composite(structOf(data(1)), structOf(nil))}, 100)
	checkOracle(t, "many kinds", pointersTo(many...))
	checkOracle(t, "struct of many kinds", structOf(data(5), many...))
	checkOracle(t, "composite list of many kinds", composite(slices.Repeat([]api.Node{structOf(data(2), many[:5]...), structOf(nil)}, 50)...))
}

func TestRandomNodes(t *testing.T) {
	r := rand.New(rand.NewSource(1))
	large := 0
	for range 10000 {
		n := random(r, 1+r.Intn(5))
		checkOracle(t, "random", n)
		if canonsize.Node(n) > 100 {
			large++
		}
	}
	if large < 500 {
		t.Errorf("only %d nodes are large", large)
	}
}

// P14.2

// small returns nodes of the given nesting, of which no two are equal.
func small(depth int) []api.Node {
	list := []api.Node{{}}
	if depth == 0 {
		return list
	}
	var kids [][]api.Node
	below := small(depth - 1)
	kids = append(kids, nil)
	for _, a := range below {
		kids = append(kids, []api.Node{a})
		for _, b := range below[:min(len(below), 12)] {
			kids = append(kids, []api.Node{a, b})
		}
	}
	var structs []api.Node
	for _, k := range kids {
		list = append(list, pointersTo(k...))
		if len(k) == 0 || k[len(k)-1].Kind != api.NodeNull {
			structs = append(structs, structOf(nil, k...), structOf(data(1), k...), structOf(data(0, 1), k...))
		}
	}
	list = append(list, structs...)
	for elem := range api.ElemPointer {
		list = append(list, plain(elem, 0), numbered(elem, 1), numbered(elem, 2))
	}
	list = append(list, plain(api.ElemVoid, 64), plain(api.ElemBit, 2, 0), plain(api.ElemBit, 8, 0), plain(api.ElemByte, 1, 0), plain(api.ElemByte, 2, 0, 0), plain(api.ElemEight, 1, make([]byte, 8)...), composite())
	for _, a := range structs[:min(len(structs), 30)] {
		list = append(list, composite(a))
		for _, b := range structs[:min(len(structs), 30)] {
			list = append(list, composite(a, b))
		}
	}
	return list
}

func TestDifferentNodesHaveDifferentForms(t *testing.T) {
	forms := map[string]api.Node{}
	list := small(2)
	for _, n := range list {
		words := canonwrite.Write(n)
		checkConsequences(t, "small", n, words)
		key := fmt.Sprint(words)
		if other, ok := forms[key]; ok {
			t.Fatalf("%s and %s have the form %s", brief(n), brief(other), short(words))
		}
		forms[key] = n
	}
	if len(list) < 3000 {
		t.Errorf("only %d nodes", len(list))
	}
}

func TestFormsOfRandomNodesAreEqualIfTheNodesAre(t *testing.T) {
	r := rand.New(rand.NewSource(2))
	forms := map[string]api.Node{}
	again := 0
	for range 50000 {
		n := random(r, 1+r.Intn(3))
		key := fmt.Sprint(canonwrite.Write(n))
		if other, ok := forms[key]; !ok {
			forms[key] = n
		} else if again++; !node.Equal(n, other) {
			t.Fatalf("%s and %s have the same form", brief(n), brief(other))
		}
	}
	if again < 1000 || len(forms) < 1000 {
		t.Errorf("only %d different forms, %d equal ones", len(forms), again)
	}
}

// A change of a kid or of a bit anywhere in a node changes its form.
func TestFormsOfNodesThatDifferInOnePlace(t *testing.T) {
	n := structOf(data(1, 2), pointersTo(api.Node{}, structOf(nil)), composite(structOf(data(3)), structOf(nil, structOf(data(4)))), numbered(api.ElemBit, 9))
	list, elements := n.Kids[0].Kids, n.Kids[1].Kids
	var nodes []api.Node
	for _, place := range []*api.Node{&n, &n.Kids[0], &list[0], &list[1], &n.Kids[1], &elements[0], &elements[1], &elements[1].Kids[0], &n.Kids[2]} {
		before := *place
		others := []api.Node{before, structOf(data(9)), structOf(data(9, 9)), structOf(nil, structOf(data(9)))}
		for i := range 8 * len(before.Data) {
			other := trim.Trim(before)
			other.Data[i/8] ^= 1 << (i % 8)
			others = append(others, other)
		}
		for _, other := range others {
			*place = other
			if node.Valid(n) {
				nodes = append(nodes, trim.Trim(n))
			}
		}
		*place = before
	}
	for _, a := range nodes {
		for _, b := range nodes {
			if slices.Equal(canonwrite.Write(a), canonwrite.Write(b)) != node.Equal(a, b) {
				t.Fatalf("%s and %s: %s", brief(a), brief(b), short(canonwrite.Write(a)))
			}
		}
	}
	if len(nodes) < 300 {
		t.Errorf("only %d nodes", len(nodes))
	}
}

// P14.3

// copied returns a copy of n that includes the unused capacity of its slices.
func copied(n api.Node) api.Node {
	data, kids := n.Data, n.Kids
	n.Data = slices.Clone(data[:cap(data)])[:len(data)]
	n.Kids = slices.Clone(kids[:cap(kids)])[:len(kids)]
	for i, kid := range kids[:cap(kids)] {
		n.Kids[:cap(kids)][i] = copied(kid)
	}
	return n
}

// isSame reports whether a and b, of which b is a copy, are equal with the unused capacity of a.
func isSame(a, b api.Node) bool {
	return a.Kind == b.Kind && a.Elem == b.Elem && a.N == b.N && len(a.Data) == len(b.Data) && len(a.Kids) == len(b.Kids) &&
		bytes.Equal(a.Data[:cap(a.Data)], b.Data[:cap(a.Data)]) &&
		slices.EqualFunc(a.Kids[:cap(a.Kids)], b.Kids[:cap(a.Kids)], isSame)
}

// withSpare returns a copy of n whose slices have unused capacity that is not zero.
func withSpare(n api.Node) api.Node {
	n.Data = append(append(make([]byte, 0, len(n.Data)+9), n.Data...), bytes.Repeat([]byte{0xa5}, 9)...)[:len(n.Data)]
	kids := make([]api.Node, 0, len(n.Kids)+2)
	for _, kid := range n.Kids {
		kids = append(kids, withSpare(kid))
	}
	n.Kids = append(kids, structOf(data(9), structOf(data(9))), api.Node{Kind: 77})[:len(kids)]
	return n
}

func TestArgumentsAreNotModified(t *testing.T) {
	r := rand.New(rand.NewSource(3))
	for range 2000 {
		n := random(r, 4)
		want := form(n)
		n = withSpare(n)
		before := copied(n)
		words := canonwrite.Write(n)
		if !slices.Equal(words, want) { // the unused capacity is not read
			t.Fatalf("%s: %s", brief(n), short(words))
		}
		if !isSame(n, before) {
			t.Fatalf("the argument was modified: %s", brief(n))
		}
		for i := range words[:cap(words)] {
			words[:cap(words)][i] = 77
		}
		if !isSame(n, before) || !slices.Equal(canonwrite.Write(n), want) {
			t.Fatalf("the result is not new: %s", brief(n))
		}
	}
}

// P1: the promises leave these results open, but there are no panics.

func TestNoPanicForOtherNodes(t *testing.T) {
	numbers := []int{math.MinInt, -1, 0, 1, 2, 3, 6, 7, 8, math.MaxInt}
	for _, kind := range numbers {
		for _, elem := range numbers {
			for _, n := range numbers {
				kid := api.Node{Kind: elem, Elem: kind, N: n, Data: make([]byte, 3)}
				other := api.Node{Kind: kind, Elem: elem, N: n, Data: make([]byte, 13), Kids: []api.Node{kid, {}}}
				canonwrite.Write(other)
				canonwrite.Write(composite(kid, other, kid))
			}
		}
	}
	large := composite(slices.Repeat([]api.Node{structOf(make([]uint64, maxSection))}, 1<<13)...)
	canonwrite.Write(large)
	canonwrite.Write(structOf(make([]uint64, maxSection+1), make([]api.Node, maxSection+1)...))
}
