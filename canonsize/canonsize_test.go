package canonsize_test

import (
	"bytes"
	"math"
	"math/rand"
	"slices"
	"strconv"
	"testing"

	"capnp/api"
	"capnp/canonsize"
	"capnp/denote"
	"capnp/node"
	"capnp/trim"
)

const (
	maxDepth   = 1000
	maxSection = 65535
)

// A sized is a well-formed, trimmed node with the sizes that the chapter gives it.
type sized struct {
	n    api.Node
	own  int // of its object
	kids int // of the objects that pointers refer to
}

// null is the null node.
var null = sized{}

// structOf returns a struct.
func structOf(words int, kids ...sized) sized {
	s := holding(api.Node{Kind: api.NodeStruct}, kids)
	for i := range words {
		s.n.Data = append(s.n.Data, byte(1+i%255), 0, 0, 0, 0, 0, 0, 0)
	}
	s.own = words + len(kids)
	return s
}

// pointersTo returns a list of pointers.
func pointersTo(kids ...sized) sized {
	s := holding(api.Node{Kind: api.NodeList, Elem: api.ElemPointer, N: len(kids)}, kids)
	s.own = len(kids)
	return s
}

// composite returns a composite list, of structs with the given uniform size.
func composite(words, pointers int, elements ...sized) sized {
	s := sized{n: api.Node{Kind: api.NodeList, Elem: api.ElemComposite, N: len(elements)}}
	for _, element := range elements {
		s.n.Kids = append(s.n.Kids, element.n)
		s.kids += element.kids
	}
	s.own = 1 + len(elements)*(words+pointers)
	return s
}

// plain returns a list that is neither of pointers nor composite, with the given number of words.
func plain(elem, n, words int) sized {
	bits := []int{0, 1, 8, 16, 32, 64}[elem] * n
	return sized{n: api.Node{Kind: api.NodeList, Elem: elem, N: n, Data: make([]byte, (bits+7)/8)}, own: words}
}

// holding returns n with the given kids.
func holding(n api.Node, kids []sized) sized {
	s := sized{n: n}
	for _, kid := range kids {
		s.n.Kids = append(s.n.Kids, kid.n)
		s.kids += kid.own + kid.kids
	}
	return s
}

// brief writes n, but no more than a few hundred characters.
func brief(n api.Node) string {
	s := "(" + strconv.Itoa(n.Kind) + " " + strconv.Itoa(n.Elem) + " " + strconv.Itoa(n.N) + " " + strconv.Quote(string(n.Data[:min(len(n.Data), 100)]))
	for _, kid := range n.Kids {
		if len(s) > 300 {
			return s + "..."
		}
		s += brief(kid)
	}
	return s + ")"
}

// check checks all functions for a node that is in the domain of the promises.
func check(t *testing.T, name string, s sized) {
	t.Helper()
	if !node.Valid(s.n) || !node.Equal(trim.Trim(s.n), s.n) {
		t.Fatalf("%s: not well-formed or not trimmed: %s", name, brief(s.n))
	}
	checkSizes(t, name, s)
}

// checkSizes checks all functions for a node that may be too large to be checked itself.
func checkSizes(t *testing.T, name string, s sized) {
	t.Helper()
	if got := canonsize.Object(s.n); got != s.own {
		t.Fatalf("%s: Object(%s) = %d, not %d", name, brief(s.n), got, s.own)
	}
	if got := canonsize.Node(s.n); got != s.own+s.kids {
		t.Fatalf("%s: Node(%s) = %d, not %d", name, brief(s.n), got, s.own+s.kids)
	}
	if got := canonsize.Total(s.n); got != s.own+s.kids+1 {
		t.Fatalf("%s: Total(%s) = %d, not %d", name, brief(s.n), got, s.own+s.kids+1)
	}
}

// random returns a node with a nesting of at most depth.
func random(r *rand.Rand, depth int) sized {
	kinds := 5
	if depth == 0 {
		kinds = 1
	}
	switch r.Intn(kinds) {
	case 1:
		return randomStruct(r, depth)
	case 2:
		return pointersTo(several(r, func() sized { return random(r, depth-1) })...)
	case 3:
		return randomComposite(r, depth)
	case 4:
		return randomPlain(r)
	}
	return null
}

func randomStruct(r *rand.Rand, depth int) sized {
	kids := several(r, func() sized { return random(r, depth-1) })
	if len(kids) > 0 && kids[len(kids)-1].n.Kind == api.NodeNull {
		kids = append(kids, randomPlain(r))
	}
	return structOf(r.Intn(4), kids...)
}

func randomComposite(r *rand.Rand, depth int) sized {
	words, pointers := 0, 0
	elements := several(r, func() sized {
		element := randomStruct(r, depth)
		words = max(words, element.own-len(element.n.Kids))
		pointers = max(pointers, len(element.n.Kids))
		return element
	})
	return composite(words, pointers, elements...)
}

func randomPlain(r *rand.Rand) sized {
	elem, n := r.Intn(6), r.Intn(200)
	perWord := []int{math.MaxInt, 64, 8, 4, 2, 1}[elem]
	words := 0
	for left := n; left > 0 && elem != api.ElemVoid; left -= perWord {
		words++
	}
	return plain(elem, n, words)
}

// several returns up to four nodes.
func several(r *rand.Rand, one func() sized) []sized {
	var list []sized
	for range r.Intn(5) {
		list = append(list, one())
	}
	return list
}

// chains returns a node of the given depth for each way in which an object is nested in another one.
func chains(depth int) map[string]sized {
	wraps := map[string]func(int, sized) sized{
		"structs":    func(_ int, s sized) sized { return structOf(0, s) },
		"lists":      func(_ int, s sized) sized { return pointersTo(s, null) },
		"composites": func(_ int, s sized) sized { return composite(1, 2, structOf(1), structOf(0, null, s)) },
		"fringed":    func(i int, s sized) sized { return structOf(i%5, null, s, structOf(2), plain(api.ElemByte, 9, 2)) },
	}
	wraps["all of them"] = func(i int, s sized) sized {
		return []func(int, sized) sized{wraps["structs"], wraps["composites"], wraps["lists"]}[i%3](i, s)
	}
	list := map[string]sized{}
	for name, wrap := range wraps {
		s := structOf(3)
		for i := range depth - 1 {
			s = wrap(i, s)
		}
		list[name] = s
	}
	return list
}

// P13.1: the example, null and structs.

func TestTheExample(t *testing.T) {
	n := api.Node{Kind: api.NodeStruct, Data: []byte{5, 0, 0, 0, 0, 0, 0, 0}, Kids: []api.Node{
		{Kind: api.NodeList, Elem: api.ElemByte, N: 9, Data: []byte{1, 2, 3, 4, 5, 6, 7, 8, 9}},
	}}
	if own, all, total := canonsize.Object(n), canonsize.Node(n), canonsize.Total(n); own != 2 || all != 4 || total != 5 {
		t.Errorf("%d, %d, %d", own, all, total)
	}
}

func TestNull(t *testing.T) {
	check(t, "null", null)
	check(t, "null with empty slices", sized{n: api.Node{Data: []byte{}, Kids: []api.Node{}}})
}

func TestStructsOfEverySmallSize(t *testing.T) {
	for words := range 20 {
		for pointers := range 20 {
			kids := make([]sized, pointers)
			if pointers > 0 {
				kids[pointers-1] = structOf(0)
			}
			s := structOf(words, kids...)
			if s.own != words+pointers || s.kids != 0 {
				t.Fatalf("the test is wrong: %d %d", s.own, s.kids)
			}
			check(t, "struct", s)
		}
	}
}

func TestKnownStructs(t *testing.T) {
	empty, leaf := structOf(0), structOf(1)
	for name, s := range map[string]sized{
		"kid":              {n: structOf(0, leaf).n, own: 1, kids: 1},
		"empty kid":        {n: structOf(0, empty).n, own: 1},
		"null in between":  {n: structOf(2, null, leaf).n, own: 4, kids: 1},
		"two kids":         {n: structOf(1, leaf, structOf(3)).n, own: 3, kids: 4},
		"kid of a kid":     {n: structOf(1, structOf(2, structOf(4))).n, own: 2, kids: 7},
		"list in a struct": {n: structOf(0, pointersTo(leaf, null)).n, own: 1, kids: 3},
		"void list":        {n: structOf(0, plain(api.ElemVoid, 7, 0)).n, own: 1},
		"empty list":       {n: structOf(0, pointersTo(), plain(api.ElemByte, 0, 0)).n, own: 2},
		"empty composite":  {n: structOf(0, composite(0, 0)).n, own: 1, kids: 1},
		"bytes":            {n: structOf(0, plain(api.ElemByte, 8, 1), plain(api.ElemByte, 9, 2)).n, own: 2, kids: 3},
	} {
		check(t, name, s)
	}
}

func TestTheLargestStruct(t *testing.T) {
	kids := make([]sized, maxSection)
	check(t, "data", structOf(maxSection))
	kids[maxSection-1] = structOf(1)
	s := structOf(maxSection, kids...)
	if s.own != 131070 || s.kids != 1 {
		t.Fatalf("the test is wrong: %d %d", s.own, s.kids)
	}
	check(t, "both sections", s)
}

// P13.1: lists.

// The number of elements that a word holds, of each element size.
func TestListsOfEverySmallCount(t *testing.T) {
	for elem, perWord := range map[int]int{
		api.ElemBit: 64, api.ElemByte: 8, api.ElemTwo: 4, api.ElemFour: 2, api.ElemEight: 1,
	} {
		check(t, "no elements", plain(elem, 0, 0))
		for words := 1; words < 6; words++ {
			for n := (words-1)*perWord + 1; n <= words*perWord; n++ {
				check(t, "list", plain(elem, n, words))
			}
		}
	}
	for n := range 300 {
		check(t, "void", plain(api.ElemVoid, n, 0))
		s := pointersTo(make([]sized, n)...)
		if s.own != n {
			t.Fatalf("the test is wrong: %d", s.own)
		}
		check(t, "null pointers", s)
	}
}

func TestTheLargestLists(t *testing.T) {
	check(t, "void", plain(api.ElemVoid, api.MaxCount, 0))
	check(t, "bits", plain(api.ElemBit, api.MaxCount, 1<<23))
	check(t, "bytes", plain(api.ElemByte, 1<<24+1, 1<<21+1))
	check(t, "words", plain(api.ElemEight, 1<<22, 1<<22))
	check(t, "pointers", pointersTo(make([]sized, 1<<17)...))
}

func TestListsOfPointers(t *testing.T) {
	leaf, empty := structOf(1), structOf(0)
	for name, s := range map[string]sized{
		"none":            {n: pointersTo().n},
		"null":            {n: pointersTo(null).n, own: 1},
		"empty structs":   {n: pointersTo(empty, empty).n, own: 2},
		"structs":         {n: pointersTo(leaf, null, structOf(2, leaf)).n, own: 3, kids: 5},
		"trailing null":   {n: pointersTo(leaf, null, null).n, own: 3, kids: 1},
		"lists":           {n: pointersTo(pointersTo(null, null), plain(api.ElemBit, 65, 2)).n, own: 2, kids: 4},
		"composite lists": {n: pointersTo(composite(0, 0), composite(1, 0, leaf, empty)).n, own: 2, kids: 4},
	} {
		check(t, name, s)
	}
}

func TestCompositeLists(t *testing.T) {
	leaf, empty := structOf(1), structOf(0)
	for name, s := range map[string]sized{
		"none":                       {n: composite(0, 0).n, own: 1},
		"an empty struct":            {n: composite(0, 0, empty).n, own: 1},
		"empty structs":              {n: composite(0, 0, empty, empty, empty).n, own: 1},
		"one word":                   {n: composite(1, 0, leaf).n, own: 2},
		"words":                      {n: composite(1, 0, leaf, leaf, leaf).n, own: 4},
		"extended by words":          {n: composite(3, 0, empty, structOf(3), leaf, empty).n, own: 13},
		"extended by pointers":       {n: composite(0, 2, empty, structOf(0, null, leaf), empty).n, own: 7, kids: 1},
		"sizes of several elements":  {n: composite(3, 2, structOf(3), structOf(0, null, leaf)).n, own: 11, kids: 1},
		"the other way":              {n: composite(3, 2, structOf(0, null, leaf), structOf(3)).n, own: 11, kids: 1},
		"kids of several elements":   {n: composite(1, 1, structOf(1, leaf), structOf(0, structOf(5)), empty).n, own: 7, kids: 6},
		"several kids of an element": {n: composite(0, 3, structOf(0, leaf, structOf(2), structOf(4))).n, own: 4, kids: 7},
		"lists in elements":          {n: composite(0, 1, structOf(0, pointersTo(leaf, null)), structOf(0, plain(api.ElemTwo, 5, 2))).n, own: 3, kids: 5},
		"nested": {n: composite(0, 1, structOf(0, composite(1, 1, leaf, structOf(0, composite(2, 0, structOf(2)))))).n,
			own: 2, kids: 5 + 3},
		"large kids are not elements": {n: composite(0, 1, structOf(0, structOf(100)), empty).n, own: 3, kids: 100},
	} {
		check(t, name, s)
	}
}

// All orders of all small sizes of three elements.
func TestUniformSizes(t *testing.T) {
	sizes := func(yield func(words, pointers int, element sized)) {
		for words := range 3 {
			yield(words, 0, structOf(words))
			yield(words, 1, structOf(words, structOf(0)))
			yield(words, 2, structOf(words, null, structOf(0)))
		}
	}
	sizes(func(w1, p1 int, a sized) {
		sizes(func(w2, p2 int, b sized) {
			sizes(func(w3, p3 int, c sized) {
				check(t, "three elements", composite(max(w1, w2, w3), max(p1, p2, p3), a, b, c))
			})
		})
	})
}

// One large element extends all others, so that the size exceeds 32 bits.
func TestTheLargestUniformSize(t *testing.T) {
	const n = 1 << 18
	kids := make([]api.Node, maxSection)
	kids[maxSection-1] = structOf(7).n
	elements := slices.Repeat([]api.Node{structOf(0).n}, n)
	elements[n/2] = api.Node{Kind: api.NodeStruct, Data: structOf(maxSection).n.Data}
	elements[n-1] = api.Node{Kind: api.NodeStruct, Kids: kids}
	s := sized{n: api.Node{Kind: api.NodeList, Elem: api.ElemComposite, N: n, Kids: elements}, own: 1 + n*131070, kids: 7}
	check(t, "list", s)
	check(t, "twice", structOf(1, s, s))
}

// P13.1: all objects at all depths.

func TestChains(t *testing.T) {
	for _, depth := range []int{1, 2, 3, 10, 999, maxDepth} {
		for name, s := range chains(depth) {
			if node.Depth(s.n) != depth {
				t.Fatalf("%s: a chain of depth %d instead of %d", name, node.Depth(s.n), depth)
			}
			check(t, name, s)
		}
	}
}

// Each occurrence of a value is an object of its own.
func TestKidsThatShareMemory(t *testing.T) {
	s := structOf(1)
	for depth := range 17 {
		if want := 3<<depth - 2; s.own+s.kids != want {
			t.Fatalf("the test is wrong: %d, not %d", s.own+s.kids, want)
		}
		check(t, "tree", s)
		s = pointersTo(s, s)
	}
	for range 4 {
		s = composite(0, 2, structOf(0, s, s), structOf(0))
	}
	checkSizes(t, "tree of composite lists", s)
}

func TestWideNodes(t *testing.T) {
	many := slices.Repeat([]sized{structOf(2, structOf(3)), structOf(0), plain(api.ElemBit, 65, 2), composite(1, 0, structOf(1), structOf(0))}, 10000)
	check(t, "list of pointers", pointersTo(many...))
	check(t, "struct", structOf(5, many...))
	check(t, "composite list", composite(2, 1, slices.Repeat([]sized{structOf(2, structOf(3)), structOf(0)}, 20000)...))
}

func TestRandomNodes(t *testing.T) {
	r := rand.New(rand.NewSource(1))
	large := 0
	for range 20000 {
		s := random(r, 1+r.Intn(6))
		check(t, "random", s)
		if s.own+s.kids > 100 {
			large++
		}
	}
	if large < 1000 {
		t.Errorf("only %d nodes are large", large)
	}
}

// P13.2

// structTo returns the word of a struct pointer.
func structTo(offset, data, ptrs int) uint64 {
	return uint64(ptrs)<<48 | uint64(data)<<32 | uint64(uint32(offset)<<2)
}

// listTo returns the word of a list pointer.
func listTo(offset, elem, count int) uint64 {
	return uint64(count)<<35 | uint64(elem)<<32 | uint64(uint32(offset)<<2) | 1
}

// farTo returns the word of a far pointer that is not double.
func farTo(seg, pad int) uint64 { return uint64(seg)<<32 | uint64(pad)<<3 | 2 }

func TestSizesAndCostsOfKnownMessages(t *testing.T) {
	for i, x := range []struct {
		segs       [][]uint64
		size, cost int
	}{
		{[][]uint64{nil}, 0, 0},
		{[][]uint64{{0, 5}}, 0, 0},
		{[][]uint64{{structTo(-1, 0, 0)}}, 0, 0},
		{[][]uint64{{structTo(0, 1, 0), 5}}, 1, 1},
		{[][]uint64{{structTo(0, 2, 0), 5, 0}}, 1, 2},
		{[][]uint64{{structTo(0, 2, 3), 0, 0, 0, 0, 0}}, 0, 5},
		{[][]uint64{{structTo(0, 0, 2), structTo(1, 1, 0), structTo(0, 1, 0), 5}}, 4, 4}, // the same struct twice
		{[][]uint64{{listTo(0, api.ElemByte, 9), 1, 2}}, 2, 2},
		{[][]uint64{{listTo(0, api.ElemEight, 2), 0, 0}}, 2, 2},
		{[][]uint64{{listTo(0, api.ElemPointer, 2), 0, 0}}, 2, 2},
		{[][]uint64{{listTo(0, api.ElemVoid, 9)}}, 0, 0},
		{[][]uint64{{listTo(0, api.ElemComposite, 0), 0}}, 1, 1},
		{[][]uint64{{listTo(0, api.ElemComposite, 0), structTo(9, 0, 0)}}, 1, 10}, // elements without words are charged
		{[][]uint64{{listTo(0, api.ElemComposite, 2), structTo(2, 1, 0), 5, 0}}, 3, 3},
		{[][]uint64{{listTo(0, api.ElemComposite, 2), structTo(2, 1, 0), 0, 0}}, 1, 3},
		{[][]uint64{{listTo(0, api.ElemComposite, 4), structTo(2, 2, 0), 5, 0, 6, 0}}, 3, 5},
		{[][]uint64{{listTo(0, api.ElemComposite, 3), structTo(1, 1, 0), 5, 6, 7}}, 2, 4}, // words that no element has
		{[][]uint64{{farTo(1, 0)}, {structTo(0, 1, 0), 5}}, 1, 1},
	} {
		n, err := denote.Message(x.segs, api.Limits{Depth: maxDepth, Words: 100})
		if err != api.OK {
			t.Fatalf("%d: error %d", i, err)
		}
		if got := canonsize.Node(n); got != x.size {
			t.Errorf("%d: Node(%s) = %d, not %d", i, brief(n), got, x.size)
		}
		if got, err := denote.Measure(x.segs, api.Limits{Depth: maxDepth, Words: 100}); got != x.cost || err != api.OK {
			t.Errorf("%d: Measure = %d, %d, not %d", i, got, err, x.cost)
		}
	}
}

func TestSizesDoNotExceedCosts(t *testing.T) {
	r := rand.New(rand.NewSource(2))
	equal, less := 0, 0
	for range 200000 {
		segs := make([][]uint64, 1+r.Intn(3))
		for i := range segs {
			segs[i] = make([]uint64, 1+r.Intn(16))
			for j := range segs[i] {
				segs[i][j] = randomWord(r, len(segs))
			}
		}
		l := api.Limits{Depth: r.Intn(8), Words: r.Intn(1000)}
		n, err := denote.Message(segs, l)
		if err != api.OK {
			continue
		}
		cost, _ := denote.Measure(segs, l)
		switch size := canonsize.Node(n); {
		case size > cost:
			t.Fatalf("%x: a size of %d and a cost of %d", segs, size, cost)
		case size < cost:
			less++
		case size > 2:
			equal++
		}
	}
	if equal < 1000 || less < 1000 {
		t.Errorf("only %d sizes equal the cost, only %d are smaller", equal, less)
	}
}

// randomWord returns a word that is often a pointer to an object in a small segment.
func randomWord(r *rand.Rand, segs int) uint64 {
	offset := r.Intn(6) - 1
	switch r.Intn(8) {
	case 0, 1:
		return structTo(offset, r.Intn(3), r.Intn(3))
	case 2:
		return listTo(offset, r.Intn(6), r.Intn(70))
	case 3:
		return listTo(offset, api.ElemPointer, r.Intn(4))
	case 4:
		return listTo(offset, api.ElemComposite, r.Intn(5))
	case 5:
		return farTo(r.Intn(segs), r.Intn(8))
	}
	return 0
}

// P13.3

// copied returns a copy of n that includes the unused capacity of its slices.
func copied(n api.Node) api.Node {
	data, kids := n.Data, n.Kids
	n.Data = slices.Clone(data[:cap(data)])[:len(data)]
	n.Kids = slices.Clone(kids[:cap(kids)])[:len(kids)]
	for i, kid := range kids[:cap(kids)] {
		n.Kids[:cap(kids)][i] = copied(kid)
	}
	return n
}

// isSame reports whether a and b, of which b is a copy, are equal with the unused capacity of a.
func isSame(a, b api.Node) bool {
	return a.Kind == b.Kind && a.Elem == b.Elem && a.N == b.N && len(a.Data) == len(b.Data) && len(a.Kids) == len(b.Kids) &&
		bytes.Equal(a.Data[:cap(a.Data)], b.Data[:cap(a.Data)]) &&
		slices.EqualFunc(a.Kids[:cap(a.Kids)], b.Kids[:cap(a.Kids)], isSame)
}

// withSpare returns a copy of n whose slices have unused capacity that is not zero.
func withSpare(n api.Node) api.Node {
	n.Data = append(append(make([]byte, 0, len(n.Data)+9), n.Data...), bytes.Repeat([]byte{0xa5}, 9)...)[:len(n.Data)]
	kids := make([]api.Node, 0, len(n.Kids)+2)
	for _, kid := range n.Kids {
		kids = append(kids, withSpare(kid))
	}
	n.Kids = append(kids, structOf(9, structOf(9)).n, api.Node{Kind: 77})[:len(kids)]
	return n
}

func TestArgumentsAreNotModified(t *testing.T) {
	r := rand.New(rand.NewSource(3))
	for range 2000 {
		s := random(r, 5)
		s.n = withSpare(s.n)
		before := copied(s.n)
		check(t, "unused capacity", s) // which is not read
		if !isSame(s.n, before) {
			t.Fatalf("the argument was modified: %s", brief(s.n))
		}
	}
}

// P1: the promises leave these results open, but there are no panics.

func TestNoPanicForOtherNodes(t *testing.T) {
	numbers := []int{math.MinInt, -1, 0, 1, 2, 3, 6, 7, 8, math.MaxInt}
	for _, kind := range numbers {
		for _, elem := range numbers {
			for _, n := range numbers {
				kid := api.Node{Kind: elem, Elem: kind, N: n, Data: make([]byte, 3)}
				other := api.Node{Kind: kind, Elem: elem, N: n, Data: make([]byte, 13), Kids: []api.Node{kid, {}}}
				canonsize.Object(other)
				canonsize.Total(other)
			}
		}
	}
}
