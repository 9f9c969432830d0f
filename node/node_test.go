package node_test

import (
	"bytes"
	"math"
	"math/rand"
	"slices"
	"strconv"
	"testing"

	"capnp/api"
	"capnp/node"
)

// maxSection is the largest number of words of a data section, and of pointers of a struct.
const maxSection = 65535

// A tree is a well-formed node with its depth and its number of objects.
type tree struct {
	n              api.Node
	depth, objects int
}

// null is the tree of the null node.
var null = tree{n: api.Node{Kind: api.NodeNull}}

// structOf returns a struct with the given data and pointers.
func structOf(data []byte, kids ...tree) tree {
	return holding(api.Node{Kind: api.NodeStruct, Data: data}, kids)
}

// pointersTo returns a list of pointers.
func pointersTo(kids ...tree) tree {
	return holding(api.Node{Kind: api.NodeList, Elem: api.ElemPointer, N: len(kids)}, kids)
}

// holding returns n with the given nodes as kids, to which it has pointers.
func holding(n api.Node, kids []tree) tree {
	t := tree{n: n, depth: 1, objects: 1}
	for _, kid := range kids {
		t.n.Kids = append(t.n.Kids, kid.n)
		t.depth = max(t.depth, 1+kid.depth)
		t.objects += kid.objects
	}
	return t
}

// composite returns a composite list of structs, which are no objects on their own.
func composite(elements ...tree) tree {
	t := tree{n: api.Node{Kind: api.NodeList, Elem: api.ElemComposite, N: len(elements)}, depth: 1, objects: 1}
	for _, e := range elements {
		t.n.Kids = append(t.n.Kids, e.n)
		t.depth = max(t.depth, e.depth)
		t.objects += e.objects - 1
	}
	return t
}

// plain returns a list that is neither of pointers nor composite.
func plain(elem, n int, data ...byte) tree {
	return tree{n: api.Node{Kind: api.NodeList, Elem: elem, N: n, Data: data}, depth: 1, objects: 1}
}

// random returns a tree of at most the given depth.
func random(r *rand.Rand, depth int) tree {
	kinds := 5
	if depth == 0 {
		kinds = 1
	}
	switch r.Intn(kinds) {
	case 1:
		return randomStruct(r, depth)
	case 2:
		return pointersTo(several(r, func() tree { return random(r, depth-1) })...)
	case 3:
		return composite(several(r, func() tree { return randomStruct(r, depth) })...)
	case 4:
		return randomPlain(r)
	}
	return null
}

func randomStruct(r *rand.Rand, depth int) tree {
	return structOf(randomBytes(r, 8*r.Intn(3)), several(r, func() tree { return random(r, depth-1) })...)
}

func randomPlain(r *rand.Rand) tree {
	n := r.Intn(20)
	switch elem := r.Intn(6); elem {
	case api.ElemVoid:
		return plain(elem, n)
	case api.ElemBit:
		b := randomBytes(r, (n+7)/8)
		if n%8 > 0 {
			b[len(b)-1] &= 1<<(n%8) - 1
		}
		return plain(elem, n, b...)
	default:
		return plain(elem, n, randomBytes(r, n<<(elem-2))...)
	}
}

// several returns up to four trees.
func several(r *rand.Rand, one func() tree) []tree {
	var list []tree
	for range r.Intn(5) {
		list = append(list, one())
	}
	return list
}

func randomBytes(r *rand.Rand, n int) []byte {
	b := make([]byte, n)
	r.Read(b)
	return b
}

// chains returns a tree of the given depth for each way in which an object is nested in another one.
func chains(depth int) map[string]tree {
	wraps := map[string]func(int, tree) tree{
		"structs":          func(_ int, t tree) tree { return structOf(nil, t) },
		"lists":            func(_ int, t tree) tree { return pointersTo(t) },
		"composites":       func(_ int, t tree) tree { return composite(structOf(nil, t)) },
		"structs, fringed": func(i int, t tree) tree { return structOf(make([]byte, 8), null, plain(api.ElemByte, 1, byte(i)), t) },
	}
	wraps["all of them"] = func(i int, t tree) tree {
		return []func(int, tree) tree{wraps["structs"], wraps["composites"], wraps["lists"]}[i%3](i, t)
	}
	list := map[string]tree{}
	for name, wrap := range wraps {
		t := plain(api.ElemByte, 1, 7)
		for i := range depth - 1 {
			t = wrap(i, t)
		}
		list[name] = t
	}
	return list
}

// changedAtTheBottom returns a copy of n whose deepest object is replaced, behind the last kid of each node.
func changedAtTheBottom(n, with api.Node) api.Node {
	if len(n.Kids) == 0 {
		return with
	}
	last := len(n.Kids) - 1
	n.Kids = slices.Clone(n.Kids)
	n.Kids[last] = changedAtTheBottom(n.Kids[last], with)
	return n
}

// key writes all that Equal compares.
func key(n api.Node) string {
	s := "(" + strconv.Itoa(n.Kind) + " " + strconv.Itoa(n.Elem) + " " + strconv.Itoa(n.N) + " " + strconv.Quote(string(n.Data))
	for _, kid := range n.Kids {
		s += key(kid)
	}
	return s + ")"
}

// clone returns a copy of n without shared memory, in which empty slices are neither nil nor without capacity.
func clone(n api.Node) api.Node {
	n.Data = append(make([]byte, 0, len(n.Data)+3), n.Data...)
	kids := make([]api.Node, 0, len(n.Kids)+2)
	for _, kid := range n.Kids {
		kids = append(kids, clone(kid))
	}
	n.Kids = kids
	return n
}

// wellFormed is the definition of the chapter: n is compared with a node that has only the fields of its case.
func wellFormed(n api.Node) bool {
	bare, ok := api.Node{Kind: n.Kind}, false
	switch {
	case n.Kind == api.NodeNull:
		ok = true
	case n.Kind == api.NodeStruct:
		bare.Data, bare.Kids = n.Data, n.Kids
		ok = len(n.Data)&7 == 0 && len(n.Data) <= 8*maxSection && len(n.Kids) <= maxSection
	case n.Kind == api.NodeList && n.Elem >= 0 && n.Elem <= 5:
		bare.Elem, bare.N, bare.Data = n.Elem, n.N, n.Data
		ok = exactBytes(n.Elem, n.N, n.Data)
	case n.Kind == api.NodeList && n.Elem == 6:
		bare.Elem, bare.N, bare.Kids = n.Elem, n.N, n.Kids
		ok = n.N == len(n.Kids)
	case n.Kind == api.NodeList && n.Elem == 7:
		bare.Elem, bare.N, bare.Kids = n.Elem, n.N, n.Kids
		ok = n.N == len(n.Kids)
		for _, kid := range n.Kids {
			ok = ok && kid.Kind == api.NodeStruct
		}
	}
	for _, kid := range n.Kids {
		ok = ok && wellFormed(kid)
	}
	return ok && key(bare) == key(n)
}

// exactBytes reports whether b consists of n elements and zero bits.
func exactBytes(elem, n int, b []byte) bool {
	if n < 0 || n > 1<<29-1 {
		return false
	}
	if elem != api.ElemBit {
		return len(b) == n*[]int{0, 0, 1, 2, 4, 8}[elem]
	}
	for i := n; i < 8*len(b); i++ {
		if b[i/8]>>(i%8)&1 != 0 {
			return false
		}
	}
	return 8*len(b) >= n && 8*len(b) < n+8
}

// combinations calls yield with a node for each choice of fields, most of which are not well-formed.
func combinations(yield func(api.Node)) {
	datas := [][]byte{
		nil, {}, {0}, {1}, {4}, {0xff}, {0xff, 1}, {0xff, 2}, make([]byte, 3), make([]byte, 4), make([]byte, 7),
		make([]byte, 8), make([]byte, 9), bytes.Repeat([]byte{0xff}, 16), make([]byte, 24),
	}
	empty := structOf(nil).n
	full := structOf(make([]byte, 8), null, pointersTo()).n
	kids := [][]api.Node{
		nil, {}, {null.n}, {empty}, {full}, {plain(api.ElemBit, 2, 3).n}, {{Kind: 9}}, {{Kind: api.NodeStruct, Data: make([]byte, 7)}},
		{empty, full}, {full, null.n}, {null.n, null.n}, {full, {Kind: api.NodeNull, N: 1}}, {empty, full, full},
		{empty, full, composite(structOf(nil)).n}, {full, full, {Kind: api.NodeStruct, Kids: []api.Node{{Kind: -1}}}},
	}
	for kind := -1; kind <= 3; kind++ {
		for elem := -1; elem <= 9; elem++ {
			for _, n := range []int{-1, 0, 1, 2, 3, 8, 9, 10} {
				for _, data := range datas {
					for _, k := range kids {
						yield(api.Node{Kind: kind, Elem: elem, N: n, Data: data, Kids: k})
					}
				}
			}
		}
	}
}

// P10.1: well-formed nodes.

func TestWellFormed(t *testing.T) {
	long := make([]byte, 8*maxSection)
	for i, n := range []api.Node{
		{}, {Data: []byte{}, Kids: []api.Node{}},
		structOf(nil).n, structOf(make([]byte, 8)).n, structOf(nil, null).n, structOf(long).n,
		structOf(bytes.Repeat([]byte{0xff}, 16), null, structOf(nil), plain(api.ElemBit, 0), null).n,
		plain(api.ElemVoid, 0).n, plain(api.ElemVoid, 5).n, plain(api.ElemVoid, api.MaxCount).n,
		plain(api.ElemBit, 0).n, plain(api.ElemBit, 1, 1).n, plain(api.ElemBit, 8, 0xff).n, plain(api.ElemBit, 9, 0xff, 1).n,
		plain(api.ElemByte, 0).n, plain(api.ElemByte, 3, 1, 2, 0xff).n, plain(api.ElemTwo, 1, 1, 0xff).n,
		plain(api.ElemFour, 1, 1, 2, 3, 0xff).n, plain(api.ElemEight, 1, 1, 2, 3, 4, 5, 6, 7, 0xff).n,
		pointersTo().n, pointersTo(null).n, pointersTo(null, structOf(nil), plain(api.ElemVoid, 1), pointersTo(), composite()).n,
		composite().n, composite(structOf(nil)).n, composite(structOf(nil, null), structOf(long), structOf(nil, composite())).n,
	} {
		if !node.Valid(n) {
			t.Errorf("node %d is not valid: %.200s", i, key(n))
		}
	}
}

func TestSizesOfStructs(t *testing.T) {
	for size := range 100 {
		if got := node.Valid(structOf(make([]byte, size)).n); got != (size%8 == 0) {
			t.Errorf("a struct with %d bytes: %v", size, got)
		}
	}
	for size, want := range map[int]bool{8*65535 - 8: true, 8*65535 - 1: false, 8 * 65535: true, 8*65535 + 1: false, 8 * 65536: false, 1 << 24: false} {
		if got := node.Valid(structOf(make([]byte, size)).n); got != want {
			t.Errorf("a struct with %d bytes: %v", size, got)
		}
	}
	for count, want := range map[int]bool{0: true, 1: true, 65534: true, 65535: true, 65536: false, 1 << 17: false} {
		n := api.Node{Kind: api.NodeStruct, Kids: make([]api.Node, count)}
		if got := node.Valid(n); got != want {
			t.Errorf("a struct with %d pointers: %v", count, got)
		}
		list := api.Node{Kind: api.NodeList, Elem: api.ElemComposite, N: 1, Kids: []api.Node{n}}
		if got := node.Valid(list); got != want {
			t.Errorf("an element with %d pointers: %v", count, got)
		}
	}
}

// The sizes of structs do not limit those of lists.
func TestLongLists(t *testing.T) {
	const count = 1<<16 + 7
	elements := slices.Repeat([]api.Node{structOf(nil).n}, count)
	for _, n := range []api.Node{
		plain(api.ElemByte, 8*count, make([]byte, 8*count)...).n,
		{Kind: api.NodeList, Elem: api.ElemPointer, N: count, Kids: make([]api.Node, count)},
		{Kind: api.NodeList, Elem: api.ElemComposite, N: count, Kids: elements},
	} {
		if !node.Valid(n) {
			t.Errorf("a list of %d elements of code %d is not valid", n.N, n.Elem)
		}
		n.N--
		if node.Valid(n) {
			t.Errorf("a list of elements of code %d with the count %d is valid with one more", n.Elem, n.N)
		}
	}
}

func TestSizesOfPlainLists(t *testing.T) {
	for elem := api.ElemVoid; elem <= api.ElemEight; elem++ {
		for count := range 30 {
			for size := range 8*count + 3 {
				want := exactBytes(elem, count, make([]byte, size))
				if got := node.Valid(plain(elem, count, make([]byte, size)...).n); got != want {
					t.Errorf("%d elements of code %d in %d bytes: %v", count, elem, size, got)
				}
			}
		}
	}
}

func TestBitsBehindTheLastOne(t *testing.T) {
	for count := range 40 {
		for i := range (count + 7) / 8 * 8 {
			b := make([]byte, (count+7)/8)
			b[i/8] = 1 << (i % 8)
			if got := node.Valid(plain(api.ElemBit, count, b...).n); got != (i < count) {
				t.Errorf("a list of %d bits of which bit %d is one: %v", count, i, got)
			}
		}
	}
}

// The bytes of other lists may end with any bits.
func TestBytesOfElementsAreNotRestricted(t *testing.T) {
	for elem := api.ElemByte; elem <= api.ElemEight; elem++ {
		for count := range 12 {
			b := bytes.Repeat([]byte{0xff}, count<<(elem-2))
			if !node.Valid(plain(elem, count, b...).n) {
				t.Errorf("%d elements of code %d with all bits are not valid", count, elem)
			}
		}
	}
}

func TestLargestCounts(t *testing.T) {
	b := make([]byte, 1<<26)
	for count, want := range map[int]bool{api.MaxCount - 8: false, api.MaxCount: true, api.MaxCount + 1: false} {
		if got := node.Valid(api.Node{Kind: api.NodeList, Elem: api.ElemBit, N: count, Data: b}); got != want {
			t.Errorf("%d bits in %d bytes: %v", count, len(b), got)
		}
	}
	b[len(b)-1] = 0x80
	if node.Valid(api.Node{Kind: api.NodeList, Elem: api.ElemBit, N: api.MaxCount, Data: b}) {
		t.Error("the bit behind the longest list is one")
	}
}

// Sizes in bits of these counts are zero or small modulo 2^64.
func TestCountsOutOfRange(t *testing.T) {
	for _, count := range []int{
		-1, -2, -8, -64, math.MinInt32, math.MinInt, math.MinInt + 1, api.MaxCount + 1, math.MaxUint32 + 1,
		1 << 58, 1 << 59, 1 << 60, 1 << 61, 1 << 62, 1<<61 + 1, math.MaxInt,
	} {
		for elem := api.ElemVoid; elem <= api.ElemComposite; elem++ {
			for _, size := range []int{0, 1, 8} {
				n := plain(elem, count, make([]byte, size)...).n
				if node.Valid(n) {
					t.Errorf("%d elements of code %d in %d bytes are valid", count, elem, size)
				}
			}
			if node.Valid(api.Node{Kind: api.NodeList, Elem: elem, N: count, Kids: []api.Node{structOf(nil).n}}) {
				t.Errorf("%d elements of code %d with a kid are valid", count, elem)
			}
		}
	}
}

// P10.1: invalid nodes.

func TestKindsAndCodesOutOfRange(t *testing.T) {
	for _, x := range []int{math.MinInt, -1 << 32, -8, -2, -1, 8, 9, 16, 64, 256, 1 << 32, 1<<32 + 1, 1<<32 + 2, math.MaxInt} {
		if node.Valid(api.Node{Kind: x}) {
			t.Errorf("the kind %d is valid", x)
		}
		if node.Valid(api.Node{Kind: api.NodeList, Elem: x}) {
			t.Errorf("the element size code %d is valid", x)
		}
		for kind := range 2 {
			if node.Valid(api.Node{Kind: kind, Elem: x}) || node.Valid(api.Node{Kind: kind, N: x}) {
				t.Errorf("a node of kind %d with the code or the count %d is valid", kind, x)
			}
		}
	}
}

func TestAllCombinationsOfFields(t *testing.T) {
	valid, invalid := 0, 0
	combinations(func(n api.Node) {
		want := wellFormed(n)
		if want {
			valid++
		} else {
			invalid++
		}
		if got := node.Valid(n); got != want {
			t.Fatalf("Valid(%s) = %v", key(n), got)
		}
	})
	if valid < 100 || invalid < 10000 {
		t.Errorf("%d valid and %d invalid nodes", valid, invalid)
	}
}

// A node that is not well-formed makes those around it invalid, whatever its place.
func TestInvalidKids(t *testing.T) {
	bad := []api.Node{
		{Kind: 3}, {N: 1}, {Data: []byte{0}}, {Kids: make([]api.Node, 1)}, {Kind: api.NodeStruct, Data: []byte{0}},
		{Kind: api.NodeStruct, N: 1}, {Kind: api.NodeStruct, Elem: 1}, plain(api.ElemBit, 1, 2).n, plain(api.ElemVoid, -1).n,
		{Kind: api.NodeList, Elem: api.ElemPointer, N: 1}, {Kind: api.NodeList, Elem: api.ElemComposite, N: 1, Kids: []api.Node{null.n}},
	}
	for i, n := range bad {
		for at := range 3 {
			kids := []tree{null, null, null}
			elements := []tree{structOf(nil), structOf(nil), structOf(nil)}
			kids[at], elements[at] = tree{n: n}, tree{n: n}
			for k, outer := range []tree{structOf(nil, kids...), pointersTo(kids...), composite(structOf(nil, kids...)), composite(elements...)} {
				if node.Valid(outer.n) || node.Valid(structOf(nil, null, outer).n) || node.Valid(pointersTo(outer, null).n) {
					t.Errorf("the invalid node %d as kid %d of parent %d", i, at, k)
				}
			}
		}
	}
}

func TestElementsAreStructs(t *testing.T) {
	for i, n := range []tree{null, pointersTo(), composite(structOf(nil)), plain(api.ElemVoid, 0), plain(api.ElemByte, 8, make([]byte, 8)...)} {
		for at := range 3 {
			elements := []tree{structOf(nil), structOf(nil), structOf(nil)}
			elements[at] = n
			if node.Valid(composite(elements...).n) {
				t.Errorf("node %d is valid as element %d", i, at)
			}
			if !node.Valid(pointersTo(elements...).n) || !node.Valid(structOf(nil, elements...).n) {
				t.Errorf("node %d is not valid behind pointer %d", i, at)
			}
		}
	}
}

func TestRandomNodesAreValid(t *testing.T) {
	r := rand.New(rand.NewSource(10))
	for range 3000 {
		if n := random(r, 6).n; !node.Valid(n) || !wellFormed(n) {
			t.Fatalf("not valid: %s", key(n))
		}
	}
}

// P10.1: Equal.

func TestEqualOfAllPairs(t *testing.T) {
	var nodes []api.Node
	i := 0
	combinations(func(n api.Node) {
		// A step that has no common factor with the numbers of choices meets all of them.
		if i%211 == 0 {
			nodes = append(nodes, n)
		}
		i++
	})
	nodes = append(nodes, handPicked()...)
	keys := make([]string, len(nodes))
	for i, n := range nodes {
		keys[i] = key(n)
	}
	for i, a := range nodes {
		for k, b := range nodes {
			if got := node.Equal(a, b); got != (keys[i] == keys[k]) {
				t.Fatalf("Equal(%s, %s) = %v", keys[i], keys[k], got)
			}
		}
	}
}

// handPicked returns nodes that differ in little.
func handPicked() []api.Node {
	one := []byte{1, 0, 0, 0, 0, 0, 0, 0}
	return []api.Node{
		{}, {Kind: 1}, {Kind: 2}, {Kind: 3}, {Elem: 1}, {Elem: -1}, {N: 1}, {N: -1}, {N: math.MaxInt}, {N: math.MinInt},
		{Data: one}, {Data: one[:1]}, {Data: one[1:]}, {Data: one[1:2]}, {Data: []byte{}}, {Kids: []api.Node{}},
		{Kids: make([]api.Node, 1)}, {Kids: make([]api.Node, 2)}, {Kids: []api.Node{{}, {Kind: 1}}}, {Kids: []api.Node{{Kind: 1}, {}}},
		{Kids: []api.Node{{Kind: 1}}}, {Kids: []api.Node{{Kids: make([]api.Node, 1)}}}, {Kids: []api.Node{{Kids: []api.Node{}}}},
		structOf(one).n, structOf(nil, structOf(one)).n, structOf(one, null).n, structOf(append(one, make([]byte, 8)...)).n,
		structOf(nil, null, structOf(nil)).n, structOf(nil, structOf(nil), null).n, structOf(nil, null, null).n,
		pointersTo(structOf(nil)).n, composite(structOf(nil)).n, pointersTo(null, null).n, pointersTo(null).n,
		composite(structOf(one), structOf(nil)).n, composite(structOf(nil), structOf(one)).n, composite(structOf(one), structOf(one)).n,
		plain(api.ElemVoid, 1).n, plain(api.ElemVoid, 2).n, plain(api.ElemByte, 8, one...).n, plain(api.ElemEight, 1, one...).n,
		plain(api.ElemBit, 1, 1).n, plain(api.ElemBit, 2, 1).n, plain(api.ElemByte, 1, 1).n, plain(api.ElemByte, 1, 2).n,
	}
}

func TestEqualOfCopies(t *testing.T) {
	r := rand.New(rand.NewSource(11))
	for range 2000 {
		n := random(r, 5).n
		if c := clone(n); !node.Equal(n, c) || !node.Equal(c, n) || !node.Equal(n, n) {
			t.Fatalf("a copy differs: %s", key(n))
		}
	}
}

func TestEqualOfRandomNodes(t *testing.T) {
	r := rand.New(rand.NewSource(12))
	same := 0
	for range 20000 {
		a, b := random(r, 2).n, random(r, 2).n
		want := key(a) == key(b)
		if want {
			same++
		}
		if node.Equal(a, b) != want || node.Equal(b, a) != want {
			t.Fatalf("Equal(%s, %s) is not %v", key(a), key(b), want)
		}
	}
	if same < 100 {
		t.Errorf("only %d pairs were equal", same)
	}
}

// Equal does not look at the capacities of slices or the bytes and nodes behind their ends.
func TestEqualIgnoresUnusedCapacity(t *testing.T) {
	data := []byte{1, 2, 3, 4, 5, 6, 7, 8, 9}
	kids := []api.Node{{}, {Kind: api.NodeStruct}, {N: 4}}
	a := api.Node{Kind: api.NodeStruct, Data: data[:8], Kids: kids[:2]}
	b := api.Node{Kind: api.NodeStruct, Data: data[:8:8], Kids: kids[:2:2]}
	if !node.Equal(a, b) || !node.Equal(b, a) || !node.Valid(a) || node.Depth(a) != 2 || node.Objects(a) != 2 {
		t.Error("unused capacity is visible")
	}
}

// P10.2: Depth and Objects.

func TestKnownDepths(t *testing.T) {
	leaf := structOf(nil)
	for i, x := range []struct {
		n              api.Node
		depth, objects int
	}{
		{null.n, 0, 0},
		{structOf(nil, null).n, 1, 1}, // the example of the chapter
		{structOf(nil).n, 1, 1},
		{structOf(make([]byte, 16)).n, 1, 1},
		{plain(api.ElemVoid, api.MaxCount).n, 1, 1},
		{plain(api.ElemBit, 9, 0xff, 1).n, 1, 1},
		{pointersTo().n, 1, 1},
		{pointersTo(null, null).n, 1, 1},
		{composite().n, 1, 1},
		{composite(structOf(nil), structOf(make([]byte, 8), null)).n, 1, 1},
		{structOf(nil, leaf).n, 2, 2},
		{structOf(nil, leaf, null, leaf).n, 2, 3},
		{pointersTo(leaf, leaf, leaf).n, 2, 4},
		{pointersTo(pointersTo(null)).n, 2, 2},
		{composite(structOf(nil, leaf)).n, 2, 2},
		{composite(structOf(nil, leaf, leaf), structOf(nil), structOf(nil, null, leaf)).n, 2, 4},
		{composite(structOf(nil, composite(structOf(nil, leaf)))).n, 3, 3},
		{structOf(nil, composite(structOf(nil), structOf(nil))).n, 2, 2},
		{structOf(nil, null, leaf, structOf(nil, structOf(nil, leaf)), leaf).n, 4, 6},
		{structOf(nil, structOf(nil, structOf(nil, leaf)), leaf).n, 4, 5},
		{pointersTo(composite(structOf(nil, plain(api.ElemByte, 1, 1)), structOf(nil)), structOf(nil, leaf)).n, 3, 5},
	} {
		if d, o := node.Depth(x.n), node.Objects(x.n); d != x.depth || o != x.objects {
			t.Errorf("node %d has the depth %d and %d objects, not %d and %d", i, d, o, x.depth, x.objects)
		}
	}
}

// The same object behind two pointers is two objects of a tree.
func TestSharedKidsAreCountedEachTime(t *testing.T) {
	n := structOf(nil).n
	for i := range 15 {
		if d, o := node.Depth(n), node.Objects(n); d != i+1 || o != 2<<i-1 {
			t.Errorf("level %d: depth %d, %d objects", i, d, o)
		}
		n = api.Node{Kind: api.NodeStruct, Kids: []api.Node{n, {}, n}}
	}
}

func TestDepthsOfRandomNodes(t *testing.T) {
	r := rand.New(rand.NewSource(13))
	for range 5000 {
		checkDepth(t, "random", random(r, 1+r.Intn(6)))
	}
}

func TestWideNodes(t *testing.T) {
	leaf := structOf(nil)
	kids := slices.Repeat([]tree{leaf, null, plain(api.ElemByte, 1, 1)}, 20000)
	checkDepth(t, "struct", structOf(nil, kids...))
	checkDepth(t, "list of pointers", pointersTo(kids...))
	checkDepth(t, "composite list", composite(slices.Repeat([]tree{structOf(nil, leaf, null), leaf}, 20000)...))
	checkDepth(t, "element", composite(leaf, structOf(nil, kids...), structOf(nil, leaf)))
}

func checkDepth(t *testing.T, name string, x tree) {
	t.Helper()
	if d, o := node.Depth(x.n), node.Objects(x.n); d != x.depth || o != x.objects {
		t.Errorf("%s: depth %d and %d objects, not %d and %d", name, d, o, x.depth, x.objects)
	}
}

// P10.1 and P10.2 with the largest nesting.

func TestDeepNodes(t *testing.T) {
	for _, depth := range []int{1, 2, 3, 999, 1000} {
		for name, x := range chains(depth) {
			if x.depth != depth {
				t.Fatalf("%s: a chain of depth %d instead of %d", name, x.depth, depth)
			}
			checkDepth(t, name, x)
			if !node.Valid(x.n) || !node.Equal(x.n, clone(x.n)) {
				t.Errorf("%s: not valid or not equal to its copy with depth %d", name, depth)
			}
			other := changedAtTheBottom(x.n, plain(api.ElemByte, 1, 8).n)
			if !node.Valid(other) || node.Equal(x.n, other) || node.Equal(other, x.n) {
				t.Errorf("%s: equal to another node with depth %d", name, depth)
			}
			if node.Valid(changedAtTheBottom(x.n, plain(api.ElemByte, 2, 8).n)) {
				t.Errorf("%s: valid with an invalid node at depth %d", name, depth)
			}
		}
	}
}

// P10.3

func TestArgumentsAreNotModified(t *testing.T) {
	r := rand.New(rand.NewSource(14))
	for range 500 {
		checkUnmodified(t, random(r, 5).n)
	}
	i := 0
	combinations(func(n api.Node) {
		if i%97 == 0 {
			checkUnmodified(t, n)
		}
		i++
	})
}

// checkUnmodified calls all functions and compares n before and after, including its unused capacity.
func checkUnmodified(t *testing.T, n api.Node) {
	t.Helper()
	n, other := clone(n), clone(n)
	fillUnused(n)
	fillUnused(other)
	before, otherBefore := contents(n), contents(other)
	node.Valid(n)
	node.Equal(n, other)
	node.Equal(n, api.Node{Kind: n.Kind, Elem: n.Elem, N: n.N, Data: n.Data})
	node.Depth(n)
	node.Objects(n)
	if contents(n) != before || contents(other) != otherBefore {
		t.Fatalf("an argument was modified: %.200s", key(n))
	}
}

// fillUnused writes to the unused capacity of all slices in n.
func fillUnused(n api.Node) {
	for i := len(n.Data); i < cap(n.Data); i++ {
		n.Data[:cap(n.Data)][i] = 0xa5
	}
	for i := len(n.Kids); i < cap(n.Kids); i++ {
		n.Kids[:cap(n.Kids)][i] = api.Node{Kind: 77, N: i}
	}
	for _, kid := range n.Kids {
		fillUnused(kid)
	}
}

// contents writes all of n with the lengths and the unused capacity of its slices.
func contents(n api.Node) string {
	s := "(" + strconv.Itoa(n.Kind) + " " + strconv.Itoa(n.Elem) + " " + strconv.Itoa(n.N) +
		" " + strconv.Itoa(len(n.Data)) + strconv.Quote(string(n.Data[:cap(n.Data)])) + " " + strconv.Itoa(len(n.Kids))
	for _, kid := range n.Kids[:cap(n.Kids)] {
		s += contents(kid)
	}
	return s + ")"
}

// P1: the promises leave the depth of such nodes open, but there are no panics.

func TestNoPanicForOtherNodes(t *testing.T) {
	combinations(func(n api.Node) {
		node.Depth(n)
		node.Objects(n)
		node.Equal(n, n)
	})
	numbers := []int{math.MinInt, -1, 0, 1, 2, 6, 7, 8, api.MaxCount + 1, 1 << 58, math.MaxInt}
	for _, kind := range numbers {
		for _, elem := range numbers {
			for _, count := range numbers {
				n := api.Node{Kind: kind, Elem: elem, N: count, Kids: []api.Node{{Kind: kind, Elem: elem, N: count}}}
				node.Valid(n)
				node.Depth(n)
				node.Objects(n)
			}
		}
	}
}
