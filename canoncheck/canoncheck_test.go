package canoncheck_test

import (
	"encoding/binary"
	"fmt"
	"math"
	"math/rand"
	"slices"
	"testing"

	"capnp/api"
	"capnp/canon"
	"capnp/canoncheck"
	"capnp/canonwrite"
	"capnp/denote"
	"capnp/node"
	"capnp/trim"
)

const (
	maxDepth = 1000
	// maxBudget is the largest budget for which canonicalization is specified.
	maxBudget = 1<<28 - 1
)

// ample are limits that no list of these tests exceeds unless it is meant to. Where a list is changed,
// the budget is modest, because canonicalization takes long for a list of millions of empty structs.
var (
	ample  = api.Limits{Depth: 100, Words: 1 << 24}
	modest = api.Limits{Depth: 100, Words: 1 << 12}
)

// structTo returns the word of a struct pointer.
func structTo(offset, data, ptrs int) uint64 {
	return uint64(ptrs)<<48 | uint64(data)<<32 | uint64(uint32(offset)<<2)
}

// listTo returns the word of a list pointer.
func listTo(offset, elem, count int) uint64 {
	return uint64(count)<<35 | uint64(elem)<<32 | uint64(uint32(offset)<<2) | 1
}

// single returns the word of a far pointer that is not double.
func single(seg, pad int) uint64 { return uint64(seg)<<32 | uint64(pad)<<3 | 2 }

// double returns the word of a double-far pointer.
func double(seg, pad int) uint64 { return uint64(seg)<<32 | uint64(pad)<<3 | 6 }

// Words of pointers: to a struct without words, and those that are an error at every position.
const (
	emptyStruct = 0x00000000fffffffc
	capability  = 3
	reserved    = 7
)

// bitsOf are the sizes of the elements of lists that have neither pointers nor structs.
var bitsOf = []int{0, 1, 8, 16, 32, 64}

// words returns its arguments.
func words(list ...uint64) []uint64 { return list }

// structOf returns a struct with the given data words.
func structOf(data []uint64, kids ...api.Node) api.Node {
	n := api.Node{Kind: api.NodeStruct, Kids: kids}
	for _, w := range data {
		n.Data = binary.LittleEndian.AppendUint64(n.Data, w)
	}
	return n
}

// listOf returns a list of pointers or a composite list.
func listOf(elem int, kids ...api.Node) api.Node {
	return api.Node{Kind: api.NodeList, Elem: elem, N: len(kids), Kids: kids}
}

// hex writes words, but no more than a few hundred characters.
func hex(list []uint64) string { return fmt.Sprintf("%.400s", fmt.Sprintf("%x", list)) }

// check checks whether a list is canonical under limits.
func check(t *testing.T, list []uint64, l api.Limits, want bool) {
	t.Helper()
	if got := canoncheck.Words(list, l); got != want {
		t.Fatalf("Words(%s, %+v) = %t", hex(list), l, got)
	}
}

// checkForm checks whether a list is canonical under limits, and that it is exactly if it is its own
// canonical form (P16.2).
func checkForm(t *testing.T, list []uint64, l api.Limits, want bool) {
	t.Helper()
	check(t, list, l, want)
	if form, err := canon.Words([][]uint64{list}, l); want != (err == api.OK && slices.Equal(form, list)) {
		t.Fatalf("%s, %+v: canonical: %t, but the form is %s, %d", hex(list), l, want, hex(form), err)
	}
}

// checkAgainstForm checks a list against its canonical form and returns whether it is canonical.
func checkAgainstForm(t *testing.T, list []uint64, l api.Limits) bool {
	t.Helper()
	form, err := canon.Words([][]uint64{list}, l)
	want := err == api.OK && slices.Equal(form, list)
	check(t, list, l, want)
	return want
}

// checkExactly checks a canonical list under the smallest limits with which it is one, and above and
// below them.
func checkExactly(t *testing.T, list []uint64, depth, cost int) {
	t.Helper()
	checkForm(t, list, api.Limits{Depth: depth, Words: cost}, true)
	check(t, list, api.Limits{Depth: depth, Words: cost, Out: -1}, true)
	check(t, list, api.Limits{Depth: maxDepth, Words: math.MaxInt}, true)
	if depth > 0 {
		checkForm(t, list, api.Limits{Depth: depth - 1, Words: maxBudget}, false)
	}
	if cost > 0 {
		checkForm(t, list, api.Limits{Depth: maxDepth, Words: cost - 1}, false)
	}
}

// above returns objects whose last pointer comes last and is missing: followed by a canonical list,
// whose first word becomes this pointer, they are canonical.
func above() [][]uint64 {
	return [][]uint64{
		{structTo(0, 1, 2), 5, 0},
		{structTo(0, 0, 2), emptyStruct},
		{listTo(0, 6, 3), 0, emptyStruct},
		{listTo(0, 7, 4), structTo(2, 1, 1), 5, 0, 0},
		{listTo(0, 7, 3), structTo(3, 0, 1), 0, emptyStruct},
	}
}

// checkCanonical checks a list that is canonical, as it is and below other objects.
func checkCanonical(t *testing.T, list []uint64, depth, cost int) {
	t.Helper()
	checkExactly(t, list, depth, cost)
	if list[0] == 0 {
		return
	}
	for _, before := range above() {
		checkExactly(t, slices.Concat(before, list), depth+1, cost+len(before))
	}
}

// checkViolation checks a list that is not canonical, as it is and below other objects.
func checkViolation(t *testing.T, list ...uint64) {
	t.Helper()
	for _, before := range append(above(), nil) {
		checkForm(t, slices.Concat(before, list), ample, false)
		check(t, slices.Concat(before, list), api.Limits{Depth: maxDepth, Words: math.MaxInt}, false)
	}
}

// P16.1: lists that are canonical.

func TestNull(t *testing.T) {
	for _, l := range []api.Limits{{}, ample, {Depth: -1, Words: -1}, {Depth: math.MinInt, Words: math.MinInt}} {
		checkForm(t, words(0), l, true)
		checkForm(t, words(0, 0), l, false)
		checkForm(t, words(0, 5), l, false)
	}
}

func TestTheEmptyList(t *testing.T) {
	for _, l := range []api.Limits{{}, ample, {Depth: -1, Words: -1}} {
		checkForm(t, nil, l, false)
		checkForm(t, words(), l, false)
	}
}

func TestKnownStructs(t *testing.T) {
	for _, x := range []struct {
		words       []uint64
		depth, cost int
	}{
		{words(emptyStruct), 1, 0},
		{words(0x0000000100000000, 5), 1, 1},
		{words(structTo(0, 2, 0), 0, 5), 1, 2},
		{words(structTo(0, 1, 0), 1<<63), 1, 1},
		// Data is not read as pointers.
		{words(structTo(0, 4, 0), capability, reserved, single(0, 0), structTo(-1, 0, 1)), 1, 4},
		{words(structTo(0, 0, 1), emptyStruct), 2, 1},
		{words(structTo(0, 0, 2), 0, emptyStruct), 2, 2},
		{words(structTo(0, 1, 1), 5, emptyStruct), 2, 2},
		{words(structTo(0, 2, 1), 0, 5, structTo(0, 1, 0), 6), 2, 4},
		{words(structTo(0, 0, 1), structTo(0, 0, 1), structTo(0, 1, 0), 5), 3, 3},
		{words(structTo(0, 0, 2), structTo(1, 1, 0), structTo(1, 2, 0), 5, 6, 7), 2, 5},
		// The objects below a pointer come before those of the next one.
		{words(structTo(0, 0, 2), structTo(1, 0, 1), structTo(2, 1, 0), structTo(0, 1, 0), 5, 6), 3, 5},
		{words(structTo(0, 0, 3), structTo(2, 0, 2), 0, structTo(3, 1, 0), structTo(1, 1, 0), emptyStruct, 5, 6), 3, 7},
	} {
		checkCanonical(t, x.words, x.depth, x.cost)
	}
}

func TestKnownLists(t *testing.T) {
	const full = math.MaxUint64
	for _, x := range []struct {
		words       []uint64
		depth, cost int
	}{
		{words(listTo(0, 0, 0)), 1, 0},
		{words(listTo(0, 0, 3)), 1, 0},
		{words(listTo(0, 0, api.MaxCount)), 1, 0},
		{words(listTo(0, 1, 0)), 1, 0},
		{words(listTo(0, 5, 0)), 1, 0},
		{words(listTo(0, 6, 0)), 1, 0},
		{words(listTo(0, 1, 9), 0x1ff), 1, 1},
		{words(listTo(0, 2, 3), 0xffffff), 1, 1},
		{words(listTo(0, 3, 5), full, 0xffff), 1, 2},
		{words(listTo(0, 4, 3), full, 0xffffffff), 1, 2},
		{words(listTo(0, 5, 2), full, full), 1, 2},
		{words(listTo(0, 2, 8), full), 1, 1},
		// Trailing zeros and null pointers of lists stay; their bytes are not read as pointers.
		{words(listTo(0, 1, 64), 0), 1, 1},
		{words(listTo(0, 5, 4), capability, single(0, 0), 0, 0), 1, 4},
		{words(listTo(0, 6, 1), 0), 1, 1},
		{words(listTo(0, 6, 3), 0, structTo(1, 1, 1), 0, 5, emptyStruct), 3, 5},
		{words(listTo(0, 6, 2), listTo(1, 6, 1), listTo(1, 2, 1), emptyStruct, 7), 3, 4},
		// The objects of a list without words begin at the next word, too.
		{words(structTo(0, 0, 2), listTo(1, 0, 3), listTo(0, 6, 0)), 2, 2},
		{words(structTo(0, 0, 3), structTo(2, 2, 0), listTo(3, 5, 0), structTo(2, 1, 0), 0, 5, 6), 2, 6},
	} {
		checkCanonical(t, x.words, x.depth, x.cost)
	}
}

func TestKnownCompositeLists(t *testing.T) {
	for _, x := range []struct {
		words       []uint64
		depth, cost int
	}{
		{words(0x0000000700000001, 0), 1, 1},
		// Elements without words are charged.
		{words(listTo(0, 7, 0), structTo(1, 0, 0)), 1, 2},
		{words(listTo(0, 7, 0), structTo(9, 0, 0)), 1, 10},
		{words(listTo(0, 7, 1), structTo(1, 1, 0), 5), 1, 2},
		{words(listTo(0, 7, 1), structTo(1, 0, 1), emptyStruct), 2, 2},
		// One element suffices that uses the last data word, and one that uses the last pointer.
		{words(listTo(0, 7, 4), structTo(2, 2, 0), 5, 0, 0, 6), 1, 5},
		{words(listTo(0, 7, 4), structTo(2, 2, 0), 0, 5, 0, 0), 1, 5},
		{words(listTo(0, 7, 6), structTo(3, 2, 0), 0, 0, 0, 5, 0, 0), 1, 7},
		{words(listTo(0, 7, 4), structTo(2, 0, 2), 0, emptyStruct, 0, 0), 2, 5},
		{words(listTo(0, 7, 6), structTo(3, 0, 2), emptyStruct, 0, 0, 0, emptyStruct, emptyStruct), 2, 7},
		{words(listTo(0, 7, 4), structTo(2, 1, 1), 5, 0, 0, emptyStruct), 2, 5},
		{words(listTo(0, 7, 6), structTo(2, 1, 2), 1, 0, structTo(3, 1, 0), 2, 0, 0, 7), 2, 8},
		// All elements come before the objects that they refer to, which come element by element.
		{words(listTo(0, 7, 4), structTo(2, 0, 2), structTo(3, 1, 0), listTo(3, 6, 1), 0, structTo(2, 1, 0), 5, emptyStruct, 6), 3, 8},
		{words(listTo(0, 7, 2), structTo(2, 0, 1), listTo(1, 7, 1), listTo(2, 7, 1), structTo(1, 1, 0), 5, structTo(1, 0, 1), emptyStruct), 3, 7},
	} {
		checkCanonical(t, x.words, x.depth, x.cost)
	}
}

func TestTheLargestStruct(t *testing.T) {
	const size = 65535
	list := make([]uint64, 1+2*size)
	list[0], list[size], list[2*size] = structTo(0, size, size), 5, emptyStruct
	checkExactly(t, list, 2, 2*size)
	checkExactly(t, slices.Concat(words(listTo(0, 7, 2*size), structTo(1, size, size)), list[1:]), 2, 1+2*size)
	list[size] = 0
	checkForm(t, list, ample, false)
	checkForm(t, slices.Concat(words(listTo(0, 7, 2*size), structTo(1, size, size)), list[1:]), ample, false)
	list[size], list[2*size] = 5, 0
	checkForm(t, list, ample, false)
	checkForm(t, slices.Concat(words(listTo(0, 7, 2*size), structTo(1, size, size)), list[1:]), ample, false)
}

// The longest list has words that are not read at all, so that the test needs little memory.
func TestTheLongestList(t *testing.T) {
	const n = 1<<28 - 2
	list := make([]uint64, 1+n)
	l := api.Limits{Depth: 1, Words: n}
	for _, x := range []struct {
		pointer uint64
		want    bool
	}{
		{listTo(0, 5, n), true},
		{listTo(0, 5, n+1), false},
		{listTo(0, 5, n-1), false},
		{listTo(0, 4, 2*n), true},
		{listTo(0, 4, 2*n-1), true},
		{listTo(0, 4, 2*n+1), false},
		{listTo(1, 5, n), false},
		{structTo(0, 5, 0), false},
		{0, false},
	} {
		list[0] = x.pointer
		check(t, list, l, x.want)
		check(t, list, api.Limits{Depth: 1, Words: math.MaxInt}, x.want)
		check(t, list, api.Limits{Depth: 1, Words: n - 2}, false)
	}
	list[0], list[n] = listTo(0, 4, 2*n-1), 1<<32
	check(t, list, l, false)
}

func TestLargeLists(t *testing.T) {
	const n = 1 << 18
	pointers, objects := words(listTo(0, 6, n)), words()
	for i := range n {
		pointers = append(pointers, structTo(n-1, 1, 0))
		objects = append(objects, uint64(i)+1)
	}
	list := append(pointers, objects...)
	checkExactly(t, list, 2, 2*n)
	list[2*n] = 0
	checkForm(t, list, ample, false)

	list = append(words(listTo(0, 7, n), structTo(n/2, 1, 1)), make([]uint64, n)...)
	checkForm(t, list, ample, false)
	list[n] = 5
	checkForm(t, list, ample, false)
	list[n+1] = emptyStruct
	checkExactly(t, list, 2, 1+n)
	list[n] = 0
	checkForm(t, list, ample, false)
}

// Elements without words are charged, up to a cost that canonicalization does not specify.
func TestElementsWithoutWords(t *testing.T) {
	for _, n := range []int{0, 1, 2, 1000, 1 << 20, 1<<28 - 1, 1 << 28, api.MaxCount - 1, api.MaxCount} {
		list := words(listTo(0, 7, 0), structTo(n, 0, 0))
		check(t, list, api.Limits{Depth: 1, Words: n + 1}, true)
		check(t, list, api.Limits{Depth: 1, Words: math.MaxInt}, true)
		check(t, list, api.Limits{Depth: 1, Words: n}, false)
		check(t, list, api.Limits{Depth: 0, Words: n + 1}, false)
	}
}

func TestChainsOfEveryKind(t *testing.T) {
	r := rand.New(rand.NewSource(8))
	wraps := []func(api.Node) api.Node{
		func(n api.Node) api.Node { return structOf(nil, n) },
		func(n api.Node) api.Node { return listOf(api.ElemPointer, n, api.Node{}) },
		func(n api.Node) api.Node {
			return listOf(api.ElemComposite, structOf(words(7)), structOf(nil, api.Node{}, n))
		},
	}
	// Chains of each kind, and one of all kinds by turns.
	for kind := range len(wraps) + 1 {
		n := structOf(words(5))
		for depth := 1; depth <= maxDepth; depth++ {
			if depth < 5 || depth > maxDepth-2 || depth%300 == 0 {
				list := canonwrite.Write(n)
				checkExactly(t, list, depth, len(list)-1)
				list[len(list)-1] = 0
				checkForm(t, list, api.Limits{Depth: maxDepth, Words: maxBudget}, false)
			}
			if kind < len(wraps) {
				n = wraps[kind](n)
			} else {
				n = wraps[depth%len(wraps)](n)
			}
		}
		checkForm(t, layout(r, math.MaxInt, n), api.Limits{Depth: maxDepth, Words: maxBudget}, false)
	}
}

// P16.1: violations, one after the other.

// The example of the chapter.
func TestTheLastDataWordIsNotZero(t *testing.T) {
	checkViolation(t, 0x0000000100000000, 0)
	checkViolation(t, 0x0000000200000000, 5, 0)
	checkViolation(t, structTo(0, 3, 0), 0, 5, 0)
	checkViolation(t, structTo(0, 1, 1), 0, emptyStruct)
	checkViolation(t, structTo(0, 0, 2), structTo(1, 1, 0), structTo(1, 1, 0), 0, 5)
	checkViolation(t, listTo(0, 6, 1), structTo(0, 2, 0), 5, 0)
}

func TestTheLastPointerIsNotNull(t *testing.T) {
	checkViolation(t, structTo(0, 0, 1), 0)
	checkViolation(t, structTo(0, 0, 2), emptyStruct, 0)
	checkViolation(t, structTo(0, 1, 1), 5, 0)
	checkViolation(t, structTo(0, 1, 2), 5, structTo(1, 1, 0), 0, 6)
	checkViolation(t, structTo(0, 1, 1), 0, 0)
}

func TestErrorsOfDenotations(t *testing.T) {
	checkViolation(t, capability)
	checkViolation(t, 0x0000000500000003)
	checkViolation(t, reserved)
	checkViolation(t, math.MaxUint64)
	checkViolation(t, structTo(0, 1, 0))
	checkViolation(t, structTo(0, 0, 1))
	checkViolation(t, structTo(0, 2, 1), 5, 5)
	checkViolation(t, listTo(0, 1, 1))
	checkViolation(t, listTo(0, 1, 65), 5)
	checkViolation(t, listTo(0, 6, 2), emptyStruct)
	checkViolation(t, listTo(0, 5, api.MaxCount), 5)
	checkViolation(t, listTo(0, 7, 0))
	checkViolation(t, listTo(0, 7, 1), structTo(1, 1, 0))
	checkViolation(t, listTo(0, 7, api.MaxCount), structTo(1, 1, 0), 5)
	checkViolation(t, structTo(-1, 0, 1))
	checkViolation(t, listTo(-1, 6, 1))
}

// A far pointer is a violation even if the object that it leads to is at the next word.
func TestFarPointers(t *testing.T) {
	for _, list := range [][]uint64{
		words(single(0, 1), 0),
		words(single(0, 1), emptyStruct),
		words(single(0, 1), structTo(0, 1, 0), 5),
		words(single(0, 2), 5, structTo(-2, 1, 0)),
		words(double(0, 1), single(0, 1), 0),
		words(double(0, 2), 5, single(0, 1), structTo(0, 1, 0)),
		words(double(0, 1), single(0, 3), structTo(0, 1, 0), 5),
		words(single(1, 0)),
		words(double(1, 0)),
	} {
		checkViolation(t, list...)
	}
}

func TestStructsWithoutWords(t *testing.T) {
	for _, offset := range []int{1, 2, -2, -3, 100, -100, api.MaxOffset, api.MinOffset} {
		checkViolation(t, structTo(offset, 0, 0))
		checkViolation(t, structTo(offset, 0, 0), 5, 5)
		checkViolation(t, structTo(0, 1, 2), 5, structTo(offset, 0, 0), emptyStruct)
		checkViolation(t, structTo(0, 1, 2), 5, emptyStruct, structTo(offset, 0, 0))
		checkViolation(t, listTo(0, 6, 3), structTo(offset, 0, 0), 0, 0)
	}
}

func TestPointersReferToTheNextWord(t *testing.T) {
	for _, list := range [][]uint64{
		// Words before, within or behind the objects.
		words(structTo(1, 1, 0), 9, 5),
		words(structTo(1, 1, 0), 0, 5),
		words(structTo(0, 0, 2), structTo(1, 1, 0), structTo(2, 1, 0), 5, 9, 6),
		words(structTo(0, 1, 0), 5, 0),
		words(structTo(0, 1, 0), 5, 9),
		words(emptyStruct, 0),
		words(listTo(0, 1, 3), 5, 0),
		words(listTo(0, 0, 3), 0),
		words(listTo(0, 7, 1), structTo(1, 1, 0), 5, 0),
		words(listTo(1, 7, 1), 0, structTo(1, 1, 0), 5),
		// Objects in another order.
		words(structTo(0, 0, 2), structTo(2, 1, 0), structTo(0, 1, 0), 6, 5),
		words(structTo(0, 0, 2), structTo(1, 0, 1), structTo(1, 1, 0), structTo(1, 1, 0), 6, 5),
		words(structTo(1, 0, 1), 5, structTo(-2, 1, 0)),
		// Objects that overlap, or are the same one.
		words(structTo(-1, 1, 0)),
		words(structTo(-1, 2, 0), 5),
		words(structTo(0, 0, 2), structTo(1, 1, 0), structTo(0, 1, 0), 5),
		words(structTo(0, 0, 2), structTo(1, 1, 0), structTo(0, 1, 0), 5, 5),
		words(structTo(0, 0, 2), structTo(1, 2, 0), structTo(1, 1, 0), 5, 6),
		words(structTo(0, 1, 1), 5, structTo(-2, 1, 0)),
		words(listTo(0, 6, 2), listTo(1, 2, 4), listTo(0, 2, 4), 0x5555),
	} {
		checkViolation(t, list...)
	}
}

func TestListsWithoutWordsReferToTheNextWord(t *testing.T) {
	for _, elem := range []int{0, 1, 2, 3, 4, 5, 6} {
		for _, offset := range []int{-1, 1, 2, -2, 100, api.MaxOffset, api.MinOffset} {
			checkViolation(t, listTo(offset, elem, 0))
			checkViolation(t, structTo(0, 0, 2), listTo(1+offset, elem, 0), emptyStruct)
			checkViolation(t, structTo(0, 0, 2), emptyStruct, listTo(offset, elem, 0))
			checkViolation(t, structTo(0, 0, 2), listTo(1+offset, elem, 0), structTo(0, 1, 0), 5)
			checkViolation(t, structTo(0, 0, 2), structTo(1, 1, 0), listTo(1+offset, elem, 0), 5)
		}
		checkCanonical(t, words(structTo(0, 0, 2), listTo(1, elem, 0), emptyStruct), 2, 2)
		checkCanonical(t, words(structTo(0, 0, 2), emptyStruct, listTo(0, elem, 0)), 2, 2)
		checkCanonical(t, words(structTo(0, 0, 2), listTo(1, elem, 0), structTo(0, 1, 0), 5), 2, 3)
		checkCanonical(t, words(structTo(0, 0, 2), structTo(1, 1, 0), listTo(1, elem, 0), 5), 2, 3)
	}
}

// Every bit of lists of every small size: it may be set exactly if it belongs to an element.
func TestBitsBehindTheLastElement(t *testing.T) {
	for elem, size := range bitsOf[1:] {
		for count := range 130 / size {
			used := size * count
			list := append(words(listTo(0, elem+1, count)), make([]uint64, (used+63)/64)...)
			checkForm(t, list, ample, true)
			for bit := range 64 * (len(list) - 1) {
				list[1+bit/64] = 1 << (bit % 64)
				check(t, list, ample, bit < used)
				check(t, slices.Concat(words(listTo(0, 6, 1)), list), ample, bit < used)
				list[1+bit/64] = 0
			}
			list[0] = listTo(0, elem+1, count+64)
			checkForm(t, list, ample, false)
		}
	}
}

func TestSizesOfCompositeLists(t *testing.T) {
	for _, list := range [][]uint64{
		// More words than the elements have.
		words(listTo(0, 7, 1), structTo(0, 0, 0), 0),
		words(listTo(0, 7, 1), structTo(2, 0, 0), 0),
		words(listTo(0, 7, 2), structTo(1, 1, 0), 5, 0),
		words(listTo(0, 7, 2), structTo(1, 1, 0), 5, 5),
		words(listTo(0, 7, 3), structTo(1, 1, 1), 5, emptyStruct, emptyStruct),
		// Fewer words.
		words(listTo(0, 7, 0), structTo(1, 1, 0), 5),
		words(listTo(0, 7, 1), structTo(2, 1, 0), 5, 5),
		words(listTo(0, 7, 1), structTo(1, 1, 1), 5, emptyStruct),
		words(listTo(0, 7, 1), structTo(api.MaxOffset, 65535, 65535), 5),
		// An empty list with the size of some element.
		words(listTo(0, 7, 0), structTo(0, 1, 0)),
		words(listTo(0, 7, 0), structTo(0, 0, 1)),
		words(listTo(0, 7, 0), structTo(0, 65535, 65535)),
		words(listTo(0, 7, 1), structTo(0, 1, 0), 5),
	} {
		checkViolation(t, list...)
	}
}

func TestUniformSizesOfCompositeLists(t *testing.T) {
	for _, list := range [][]uint64{
		words(listTo(0, 7, 1), structTo(1, 1, 0), 0),
		words(listTo(0, 7, 1), structTo(1, 0, 1), 0),
		words(listTo(0, 7, 2), structTo(2, 1, 0), 0, 0),
		words(listTo(0, 7, 4), structTo(2, 2, 0), 5, 0, 6, 0),
		words(listTo(0, 7, 4), structTo(2, 0, 2), emptyStruct, 0, emptyStruct, 0),
		words(listTo(0, 7, 2), structTo(1, 1, 1), 5, 0),
		words(listTo(0, 7, 2), structTo(1, 1, 1), 0, emptyStruct),
		words(listTo(0, 7, 4), structTo(2, 1, 1), 0, emptyStruct, 0, emptyStruct),
		words(listTo(0, 7, 4), structTo(2, 1, 1), 5, 0, 5, 0),
		// The word behind the elements does not belong to them.
		words(structTo(0, 0, 2), listTo(1, 7, 2), structTo(3, 1, 0), structTo(2, 1, 0), 0, 0, 5),
		words(listTo(0, 7, 4), structTo(2, 1, 1), 0, structTo(2, 1, 0), 0, 0, 5),
	} {
		checkViolation(t, list...)
	}
}

func TestMalformedTags(t *testing.T) {
	for _, tag := range []uint64{
		listTo(0, 0, 0), listTo(0, 7, 0), listTo(1, 2, 1), listTo(0, 5, 1), single(0, 0), single(0, 1), double(0, 1), capability, reserved,
		structTo(-1, 0, 0), structTo(-2, 0, 0), structTo(api.MinOffset, 0, 0), structTo(-1, 1, 0), structTo(-1, 0, 1), structTo(-3, 65535, 0),
	} {
		checkViolation(t, listTo(0, 7, 0), tag)
		checkViolation(t, listTo(0, 7, 1), tag, 5)
		checkViolation(t, listTo(0, 7, 1), tag, emptyStruct)
	}
}

func TestLimits(t *testing.T) {
	leaf, nested := words(structTo(0, 1, 0), 5), words(structTo(0, 0, 1), structTo(0, 1, 0), 5)
	for _, x := range []struct {
		list []uint64
		l    api.Limits
		want bool
	}{
		{leaf, api.Limits{}, false},
		{leaf, api.Limits{Depth: 1}, false},
		{leaf, api.Limits{Words: 1}, false},
		{leaf, api.Limits{Depth: 1, Words: 1}, true},
		{leaf, api.Limits{Depth: -1, Words: maxBudget}, false},
		{leaf, api.Limits{Depth: math.MinInt, Words: maxBudget}, false},
		{leaf, api.Limits{Depth: 1, Words: -1}, false},
		{leaf, api.Limits{Depth: 1, Words: math.MinInt}, false},
		{nested, api.Limits{Depth: 1, Words: 2}, false},
		{nested, api.Limits{Depth: 2, Words: 1}, false},
		{nested, api.Limits{Depth: 2, Words: 2}, true},
		// Objects without words are entered, but not charged.
		{words(emptyStruct), api.Limits{Words: 1}, false},
		{words(emptyStruct), api.Limits{Depth: 1, Words: -1, Out: -1}, true},
		{words(listTo(0, 0, 7)), api.Limits{Words: 1}, false},
		{words(listTo(0, 0, 7)), api.Limits{Depth: 1, Words: -1}, true},
		// Null pointers are not entered.
		{words(listTo(0, 6, 1), 0), api.Limits{Depth: 1, Words: 1}, true},
		{words(listTo(0, 6, 1), emptyStruct), api.Limits{Depth: 1, Words: 1}, false},
		// Elements of composite lists are not entered.
		{words(listTo(0, 7, 1), structTo(1, 1, 0), 5), api.Limits{Depth: 1, Words: 2}, true},
	} {
		checkForm(t, x.list, x.l, x.want)
	}
}

// P16.1 and P16.2: nodes in layouts that are canonical or nearly so.

// A layouter lays out a node as the only segment of a message, as in a canonical form but for some faults.
type layouter struct {
	r    *rand.Rand
	odds int // one fault is to be expected in so many places
	list []uint64
}

// A slot is a word that becomes a pointer to a kid.
type slot struct {
	at  int
	kid api.Node
}

// layout returns a list of words that, as a message, denotes the trimmed form of n.
func layout(r *rand.Rand, odds int, n api.Node) []uint64 {
	s := &layouter{r: r, odds: odds, list: words(0)}
	s.point([]slot{{0, n}})
	return s.list
}

// fault returns 1 in one of many cases, and otherwise 0.
func (s *layouter) fault() int {
	if s.r.Intn(s.odds) == 0 {
		return 1
	}
	return 0
}

// point sets pointers and lays out what they refer to.
func (s *layouter) point(slots []slot) {
	if s.fault() == 1 {
		slices.Reverse(slots)
	}
	for _, x := range slots {
		s.place(x)
	}
}

// place sets a pointer and lays out the objects below it.
func (s *layouter) place(x slot) {
	if x.kid.Kind == api.NodeNull {
		return
	}
	at := x.at
	if s.fault() == 1 {
		s.list[at] = single(0, len(s.list))
		at = s.put(0)
	}
	for range s.fault() {
		s.put(s.r.Uint64())
	}
	start := len(s.list)
	w, slots := s.object(x.kid)
	if w == 0 {
		// A struct without words: its pointer may have any offset within bounds that does not make it null.
		start = at
		if s.fault() == 1 {
			start = 0
		}
	}
	s.list[at] = w | structTo(start-at-1, 0, 0)
	s.point(slots)
}

// put appends words and returns the index of the first one.
func (s *layouter) put(list ...uint64) int {
	s.list = append(s.list, list...)
	return len(s.list) - len(list)
}

// object lays out the object of n and returns its pointer with Offset 0 and the places of its pointers.
func (s *layouter) object(n api.Node) (uint64, []slot) {
	switch {
	case n.Kind == api.NodeStruct:
		data, ptrs := len(n.Data)/8+s.fault(), len(n.Kids)+s.fault()
		return structTo(0, data, ptrs), s.structure(n, data, ptrs)
	case n.Elem == api.ElemComposite:
		return s.composite(n)
	case n.Elem == api.ElemPointer:
		return listTo(0, n.Elem, n.N), s.structure(n, 0, n.N)
	}
	s.elements(n)
	return listTo(0, n.Elem, n.N), nil
}

// structure lays out data and pointers, extended to the given sizes.
func (s *layouter) structure(n api.Node, data, ptrs int) []slot {
	first := s.put(append(wordsOf(n.Data), make([]uint64, data+ptrs-len(n.Data)/8)...)...)
	var slots []slot
	for i, kid := range n.Kids {
		slots = append(slots, slot{first + data + i, kid})
	}
	return slots
}

func (s *layouter) composite(n api.Node) (uint64, []slot) {
	data, ptrs := trim.Uniform(n)
	data, ptrs = data+s.fault(), ptrs+s.fault()
	s.put(structTo(n.N, data, ptrs))
	var slots []slot
	for _, element := range n.Kids {
		slots = append(slots, s.structure(element, data, ptrs)...)
	}
	more := s.fault() // a word of no element
	s.put(make([]uint64, more)...)
	return listTo(0, n.Elem, n.N*(data+ptrs)+more), slots
}

// elements lays out a list that is neither of pointers nor composite.
func (s *layouter) elements(n api.Node) {
	b := append(slices.Clone(n.Data), make([]byte, (8-len(n.Data)%8)%8)...)
	if behind := bitsOf[n.Elem] * n.N; behind < 8*len(b) && s.fault() == 1 {
		bit := behind + s.r.Intn(8*len(b)-behind)
		b[bit/8] |= 1 << (bit % 8)
	}
	s.put(wordsOf(b)...)
}

// wordsOf returns the words that b encodes.
func wordsOf(b []byte) []uint64 {
	list := make([]uint64, len(b)/8)
	for i := range list {
		list[i] = binary.LittleEndian.Uint64(b[8*i:])
	}
	return list
}

// random returns a well-formed node with a nesting of at most depth, often with trailing zeros.
func random(r *rand.Rand, depth int) api.Node {
	below := func() api.Node { return random(r, depth-1) }
	switch r.Intn(5) * min(depth, 1) {
	case 1:
		return randomStruct(r, depth)
	case 2:
		return listOf(api.ElemPointer, several(r, below)...)
	case 3:
		return listOf(api.ElemComposite, several(r, func() api.Node { return randomStruct(r, depth) })...)
	case 4:
		return randomElements(r)
	}
	return api.Node{}
}

func randomStruct(r *rand.Rand, depth int) api.Node {
	data := make([]uint64, r.Intn(4))
	for i := range data {
		data[i] = uint64(r.Intn(2) * r.Intn(1000))
	}
	return structOf(data, several(r, func() api.Node { return random(r, depth-1) })...)
}

func randomElements(r *rand.Rand) api.Node {
	n := api.Node{Kind: api.NodeList, Elem: r.Intn(6), N: r.Intn(40)}
	n.Data = make([]byte, (bitsOf[n.Elem]*n.N+7)/8)
	for i := range bitsOf[n.Elem] * n.N {
		n.Data[i/8] |= byte(r.Intn(4)/3) << (i % 8)
	}
	return n
}

// several returns up to four nodes.
func several(r *rand.Rand, one func() api.Node) []api.Node {
	nodes := make([]api.Node, r.Intn(5))
	for i := range nodes {
		nodes[i] = one()
	}
	return nodes
}

func TestFormsOfRandomNodes(t *testing.T) {
	r := rand.New(rand.NewSource(1))
	large := 0
	for range 10000 {
		n := trim.Trim(random(r, 1+r.Intn(4)))
		list := layout(r, math.MaxInt, n)
		if !slices.Equal(list, canonwrite.Write(n)) {
			t.Fatalf("the layout without faults of %+v is %s", n, hex(list))
		}
		cost, err := denote.Measure([][]uint64{list}, ample)
		if err != api.OK {
			t.Fatalf("%s: %d", hex(list), err)
		}
		checkExactly(t, list, node.Depth(n), cost)
		if len(list) > 20 {
			large++
		}
	}
	if large < 1000 {
		t.Errorf("only %d large lists", large)
	}
}

// The denotation of each list is known, so that it is canonical exactly if it is the form of that.
func TestLayoutsWithFaults(t *testing.T) {
	r := rand.New(rand.NewSource(2))
	for _, odds := range []int{5, 20, 100} {
		outcomes := map[bool]int{}
		for range 20000 {
			n := random(r, 1+r.Intn(4))
			if r.Intn(4) > 0 {
				n = trim.Trim(n)
			}
			list := layout(r, odds, n)
			want := slices.Equal(list, canonwrite.Write(trim.Trim(n)))
			checkForm(t, list, ample, want)
			if len(list) > 4 {
				outcomes[want]++
			}
		}
		if outcomes[true] < 500 || outcomes[false] < 500 {
			t.Errorf("%d lists that are canonical and %d that are not", outcomes[true], outcomes[false])
		}
	}
}

// changed returns a copy of a list with a change at a random place.
func changed(r *rand.Rand, list []uint64) []uint64 {
	list = slices.Clone(list)
	i, j := r.Intn(len(list)), r.Intn(len(list))
	switch r.Intn(7) {
	case 0, 1:
		list[i] ^= 1 << r.Intn(64)
	case 2:
		list[i] += uint64(4 * (r.Intn(5) - 2)) // of a pointer, mostly the offset
	case 3:
		list[i] = []uint64{0, emptyStruct, capability, structTo(0, 1, 0), listTo(0, 6, 1), single(0, j)}[r.Intn(6)]
	case 4:
		list[i], list[j] = list[j], list[i]
	case 5:
		list = slices.Insert(list, i, list[j])
	case 6:
		list = slices.Delete(list, i, i+1)
	}
	return list
}

func TestChangedForms(t *testing.T) {
	r := rand.New(rand.NewSource(3))
	outcomes := map[bool]int{}
	for range 100000 {
		list := changed(r, canonwrite.Write(trim.Trim(random(r, 1+r.Intn(4)))))
		if len(list) > 1 && r.Intn(4) == 0 {
			list = changed(r, list)
		}
		l := modest
		if r.Intn(4) == 0 {
			l = api.Limits{Depth: r.Intn(5), Words: r.Intn(100)}
		}
		isCanonical := checkAgainstForm(t, list, l)
		if len(list) > 4 {
			outcomes[isCanonical]++
		}
	}
	if outcomes[true] < 5000 || outcomes[false] < 5000 {
		t.Errorf("%d lists that are canonical and %d that are not", outcomes[true], outcomes[false])
	}
}

func TestEveryBitOfForms(t *testing.T) {
	r := rand.New(rand.NewSource(4))
	for range 50 {
		list := canonwrite.Write(trim.Trim(random(r, 3)))
		for bit := range 64 * len(list) {
			list[bit/64] ^= 1 << (bit % 64)
			checkAgainstForm(t, list, modest)
			list[bit/64] ^= 1 << (bit % 64)
		}
	}
}

func TestPartsOfForms(t *testing.T) {
	r := rand.New(rand.NewSource(5))
	for range 1000 {
		list := canonwrite.Write(trim.Trim(random(r, 3)))
		for n := range list {
			checkForm(t, list[:n], ample, false)
		}
		for _, w := range words(0, 5, emptyStruct) {
			checkForm(t, append(slices.Clone(list), w), ample, false)
		}
	}
}

func TestEverySmallList(t *testing.T) {
	choice := words(0, 5, capability, emptyStruct, structTo(0, 1, 0), structTo(1, 1, 0), structTo(0, 0, 1), structTo(0, 1, 1), structTo(0, 0, 2),
		listTo(0, 1, 3), listTo(0, 6, 0), listTo(0, 6, 2), listTo(0, 7, 0), listTo(0, 7, 1), listTo(0, 7, 2), structTo(2, 1, 0), single(0, 1))
	limits := []api.Limits{{Depth: 1, Words: 2}, {Depth: 2, Words: 3}, {Depth: 5, Words: 1000}}
	found := 0
	for n := range 5 {
		list := make([]uint64, n)
		for i := range int(math.Pow(float64(len(choice)), float64(n))) {
			for at := range list {
				list[at] = choice[i%len(choice)]
				i /= len(choice)
			}
			for _, l := range limits {
				if checkAgainstForm(t, list, l) {
					found++
				}
			}
		}
	}
	if found < 200 {
		t.Errorf("only %d canonical lists", found)
	}
}

// P16.2: forms are canonical, whatever their message.
func TestFormsOfRandomMessages(t *testing.T) {
	r := rand.New(rand.NewSource(6))
	found := 0
	for range 50000 {
		segs := make([][]uint64, 1+r.Intn(2))
		for i := range segs {
			segs[i] = make([]uint64, 1+r.Intn(9))
			for j := range segs[i] {
				offset := r.Intn(4) - 1
				choice := words(0, 5, structTo(offset, r.Intn(3), r.Intn(3)), structTo(r.Intn(3), r.Intn(2), r.Intn(2)), listTo(offset, r.Intn(6), r.Intn(20)),
					listTo(offset, 6, r.Intn(4)), listTo(offset, 7, r.Intn(5)), single(r.Intn(len(segs)), r.Intn(8)))
				segs[i][j] = choice[r.Intn(len(choice))]
			}
		}
		l := api.Limits{Depth: r.Intn(8), Words: r.Intn(1 << r.Intn(9))}
		if form, err := canon.Words(segs, l); err == api.OK {
			checkForm(t, form, l, true)
			found++
		}
		checkAgainstForm(t, segs[0], l)
	}
	if found < 5000 {
		t.Errorf("only %d messages have a form", found)
	}
}

// P16.3

// The words behind a list neither change nor count, also where a pointer leads to them.
func TestTheArgumentIsNotModified(t *testing.T) {
	r := rand.New(rand.NewSource(7))
	for range 5000 {
		form := canonwrite.Write(trim.Trim(random(r, 4)))
		for _, list := range [][]uint64{form, layout(r, 5, random(r, 3)), changed(r, form), form[:len(form)-1], append(slices.Clone(form), 0)} {
			spare := append(slices.Clone(list), emptyStruct, 5, capability)
			before := slices.Clone(spare[:cap(spare)])
			for _, l := range []api.Limits{ample, {Depth: 2, Words: 100}, {Depth: 100, Words: 5}} {
				if canoncheck.Words(spare[:len(list)], l) != canoncheck.Words(slices.Clip(list), l) {
					t.Fatalf("%s, %+v: the capacity counts", hex(list), l)
				}
				if !slices.Equal(spare[:cap(spare)], before) {
					t.Fatalf("%s became %s", hex(before), hex(spare))
				}
			}
		}
	}
	for _, list := range [][]uint64{{structTo(0, 1, 0), 5}, {listTo(0, 7, 1), structTo(1, 1, 0), 5}, {listTo(0, 6, 1), emptyStruct}} {
		for n := range list {
			check(t, list[:n], ample, false)
		}
		check(t, list, ample, true)
	}
}

// Calls do not depend on those before them, in particular on those that end with a violation.
func TestResultsDependOnArgumentsOnly(t *testing.T) {
	for range 3 {
		checkExactly(t, words(structTo(0, 1, 1), 5, listTo(0, 2, 1), 7), 2, 3)
		checkViolation(t, structTo(0, 1, 1), 5, listTo(0, 2, 1), 0x207)
		checkForm(t, nil, ample, false)
	}
}

// P1: the promises leave larger depths open, but the function terminates.
func TestDepthsThatAreLeftOpen(t *testing.T) {
	list := slices.Repeat(words(structTo(0, 0, 1)), 1<<24)
	for _, depth := range []int{maxDepth + 1, 1 << 25, math.MaxInt} {
		l := api.Limits{Depth: depth, Words: math.MaxInt}
		check(t, list, l, false)
		check(t, words(structTo(-1, 0, 1)), l, false)
		check(t, words(structTo(0, 0, 1), structTo(0, 1, 0), 5), l, true)
		check(t, words(structTo(0, 0, 1), structTo(0, 1, 0), 0), l, false)
	}
}
