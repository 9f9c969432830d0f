package trim_test

import (
	"bytes"
	"math"
	"math/rand"
	"slices"
	"strconv"
	"testing"

	"capnp/api"
	"capnp/node"
	"capnp/trim"
)

// maxSection is the largest number of words of a data section, and of pointers of a struct.
const maxSection = 65535

// A pair is a well-formed node with its trimmed form, which shares no memory with it.
type pair struct {
	n, trimmed api.Node
}

// null is the pair of the null node.
var null = pair{}

// padded returns a struct with the given data and pointers, which have no trailing zeros, behind
// which words zero words and pointers null pointers are added.
func padded(words, pointers int, data []byte, kids ...pair) pair {
	p := structOf(data, kids...)
	p.n.Data = append(p.n.Data, make([]byte, 8*words)...)
	p.n.Kids = append(p.n.Kids, make([]api.Node, pointers)...)
	return p
}

// structOf returns a struct without trailing zeros.
func structOf(data []byte, kids ...pair) pair {
	return holding(api.Node{Kind: api.NodeStruct}, api.Node{Kind: api.NodeStruct}, data, kids)
}

// pointersTo returns a list of pointers.
func pointersTo(kids ...pair) pair {
	n := api.Node{Kind: api.NodeList, Elem: api.ElemPointer, N: len(kids)}
	return holding(n, n, nil, kids)
}

// composite returns a composite list.
func composite(elements ...pair) pair {
	n := api.Node{Kind: api.NodeList, Elem: api.ElemComposite, N: len(elements)}
	return holding(n, n, nil, elements)
}

// plain returns a list that is neither of pointers nor composite.
func plain(elem, n int, data ...byte) pair {
	list := api.Node{Kind: api.NodeList, Elem: elem, N: n}
	return holding(list, list, data, nil)
}

// holding returns a pair of nodes with the given data and kids.
func holding(n, trimmed api.Node, data []byte, kids []pair) pair {
	n.Data, trimmed.Data = slices.Clone(data), slices.Clone(data)
	for _, kid := range kids {
		n.Kids = append(n.Kids, kid.n)
		trimmed.Kids = append(trimmed.Kids, kid.trimmed)
	}
	return pair{n, trimmed}
}

// dataWords returns the bytes of words.
func dataWords(words ...byte) []byte {
	var b []byte
	for _, w := range words {
		b = append(b, w, 0, 0, 0, 0, 0, 0, 0)
	}
	return b
}

// random returns a pair with a nesting of at most depth.
func random(r *rand.Rand, depth int) pair {
	kinds := 5
	if depth == 0 {
		kinds = 1
	}
	switch r.Intn(kinds) {
	case 1:
		return randomStruct(r, depth)
	case 2:
		return pointersTo(several(r, func() pair { return random(r, depth-1) })...)
	case 3:
		return composite(several(r, func() pair { return randomStruct(r, depth) })...)
	case 4:
		return randomPlain(r)
	}
	return null
}

func randomStruct(r *rand.Rand, depth int) pair {
	data := sparse(r, 8*r.Intn(4))
	if len(data) > 0 {
		data[len(data)-1-r.Intn(8)] = 1 << r.Intn(8)
	}
	kids := several(r, func() pair { return random(r, depth-1) })
	if len(kids) > 0 && kids[len(kids)-1].n.Kind == api.NodeNull {
		kids = append(kids, randomPlain(r))
	}
	return padded(r.Intn(3), r.Intn(3), data, kids...)
}

func randomPlain(r *rand.Rand) pair {
	n := r.Intn(20)
	switch elem := r.Intn(6); elem {
	case api.ElemVoid:
		return plain(elem, n)
	case api.ElemBit:
		b := sparse(r, (n+7)/8)
		if n%8 > 0 {
			b[len(b)-1] &= 1<<(n%8) - 1
		}
		return plain(elem, n, b...)
	default:
		return plain(elem, n, sparse(r, n<<(elem-2))...)
	}
}

// several returns up to four pairs.
func several(r *rand.Rand, one func() pair) []pair {
	var list []pair
	for range r.Intn(5) {
		list = append(list, one())
	}
	return list
}

// sparse returns n bytes, most of which are zero.
func sparse(r *rand.Rand, n int) []byte {
	b := make([]byte, n)
	for i := range b {
		if r.Intn(6) == 0 {
			b[i] = byte(r.Intn(256))
		}
	}
	return b
}

// chains returns a pair of the given depth for each way in which an object is nested in another one;
// each struct has trailing zeros.
func chains(depth int) map[string]pair {
	wraps := map[string]func(int, pair) pair{
		"structs":    func(_ int, p pair) pair { return padded(1, 1, nil, p) },
		"lists":      func(_ int, p pair) pair { return pointersTo(p, null) },
		"composites": func(_ int, p pair) pair { return composite(padded(1, 2, nil, null, p)) },
		"fringed":    func(i int, p pair) pair { return padded(2, 1, dataWords(byte(1+i%255)), null, p, padded(1, 1, nil)) },
	}
	wraps["all of them"] = func(i int, p pair) pair {
		return []func(int, pair) pair{wraps["structs"], wraps["composites"], wraps["lists"]}[i%3](i, p)
	}
	list := map[string]pair{}
	for name, wrap := range wraps {
		p := padded(1, 1, dataWords(7))
		for i := range depth - 1 {
			p = wrap(i, p)
		}
		list[name] = p
	}
	return list
}

// key writes all of n.
func key(n api.Node) string {
	s := "(" + strconv.Itoa(n.Kind) + " " + strconv.Itoa(n.Elem) + " " + strconv.Itoa(n.N) + " " + strconv.Quote(string(n.Data))
	for _, kid := range n.Kids {
		s += key(kid)
	}
	return s + ")"
}

// contents writes all of n with the lengths and the unused capacity of its slices.
func contents(n api.Node) string {
	s := "(" + strconv.Itoa(n.Kind) + " " + strconv.Itoa(n.Elem) + " " + strconv.Itoa(n.N) +
		" " + strconv.Itoa(len(n.Data)) + strconv.Quote(string(n.Data[:cap(n.Data)])) + " " + strconv.Itoa(len(n.Kids))
	for _, kid := range n.Kids[:cap(n.Kids)] {
		s += contents(kid)
	}
	return s + ")"
}

// withSpare returns a copy of n whose slices have unused capacity that is not zero.
func withSpare(n api.Node) api.Node {
	n.Data = append(append(make([]byte, 0, len(n.Data)+9), n.Data...), bytes.Repeat([]byte{0xa5}, 9)...)[:len(n.Data)]
	kids := make([]api.Node, 0, len(n.Kids)+2)
	for _, kid := range n.Kids {
		kids = append(kids, withSpare(kid))
	}
	n.Kids = append(kids, api.Node{Kind: 77}, api.Node{Kind: api.NodeStruct})[:len(kids)]
	return n
}

// scramble overwrites all that can be reached from n.
func scramble(n api.Node) {
	data, kids := n.Data[:cap(n.Data)], n.Kids[:cap(n.Kids)]
	for i := range data {
		data[i] ^= 0x5a
	}
	for i, kid := range kids {
		scramble(kid)
		kids[i] = api.Node{Kind: 99}
	}
}

// checkTrim checks Trim of p with all that the promises say of its result.
func checkTrim(t *testing.T, name string, p pair) {
	t.Helper()
	got := trim.Trim(p.n)
	if !node.Equal(got, p.trimmed) {
		t.Fatalf("%s: Trim(%.500s) = %.500s, not %.500s", name, key(p.n), key(got), key(p.trimmed))
	}
	if !node.Equal(trim.Trim(got), got) {
		t.Fatalf("%s: Trim is not idempotent for %.500s", name, key(p.n))
	}
	if !node.Valid(p.n) || !node.Valid(got) {
		t.Fatalf("%s: not well-formed: %.500s", name, key(got))
	}
	if node.Depth(got) != node.Depth(p.n) || node.Objects(got) != node.Objects(p.n) {
		t.Fatalf("%s: another depth or number of objects: %.500s", name, key(p.n))
	}
}

// P11.1: Words.

func TestWords(t *testing.T) {
	for i, x := range []struct {
		data []byte
		want int
	}{
		{nil, 0}, {[]byte{}, 0}, {dataWords(0), 0}, {dataWords(0, 0, 0), 0}, {dataWords(5), 1}, {dataWords(5, 0), 1},
		{dataWords(0, 5), 2}, {dataWords(0, 5, 0, 0), 2}, {dataWords(1, 0, 1), 3}, {dataWords(1, 0, 0, 1, 0), 4},
		{[]byte{0, 0, 0, 0, 0, 0, 0, 1}, 1}, {[]byte{0, 0, 0, 0, 0, 0, 0, 0x80, 0, 0, 0, 0, 0, 0, 0, 0}, 1},
		{[]byte{0, 0, 0, 0, 0, 0, 0, 1, 0, 0, 0, 1, 0, 0, 0, 0}, 2},
	} {
		if got := trim.Words(x.data); got != x.want {
			t.Errorf("%d: Words(% x) = %d, not %d", i, x.data, got, x.want)
		}
	}
}

// Each single bit is the last one of a word that is kept.
func TestWordsOfEachBit(t *testing.T) {
	for size := range 7 {
		for bit := range 64 * size {
			data := make([]byte, 8*size)
			data[bit/8] = 1 << (bit % 8)
			if got := trim.Words(data); got != bit/64+1 {
				t.Errorf("bit %d of %d words: %d", bit, size, got)
			}
			for i := range bit {
				data[i/8] |= 1 << (i % 8)
			}
			if got := trim.Words(data); got != bit/64+1 {
				t.Errorf("bits up to %d of %d words: %d", bit, size, got)
			}
		}
	}
}

func TestWordsOfRandomData(t *testing.T) {
	r := rand.New(rand.NewSource(20))
	for range 5000 {
		data, want := sparse(r, 8*r.Intn(10)), 0
		for i, b := range data {
			if b != 0 {
				want = i/8 + 1
			}
		}
		if got := trim.Words(data); got != want {
			t.Fatalf("Words(% x) = %d, not %d", data, got, want)
		}
	}
}

// The data of lists may be longer than that of structs.
func TestWordsOfLongData(t *testing.T) {
	data := make([]byte, 1<<24)
	if got := trim.Words(data); got != 0 {
		t.Errorf("zeros: %d", got)
	}
	for _, at := range []int{0, 7, 8, 8*maxSection - 1, 8 * maxSection, 1<<24 - 9, 1<<24 - 8, 1<<24 - 1} {
		data[at] = 0x80
		if got := trim.Words(data); got != at/8+1 {
			t.Errorf("byte %d: %d", at, got)
		}
	}
}

// P11.1: Pointers.

func TestPointers(t *testing.T) {
	empty, full := structOf(nil).n, structOf(dataWords(1), pointersTo()).n
	for i, x := range []struct {
		kids []api.Node
		want int
	}{
		{nil, 0}, {[]api.Node{}, 0}, {make([]api.Node, 1), 0}, {make([]api.Node, 70000), 0},
		{[]api.Node{empty}, 1}, {[]api.Node{{}, empty}, 2}, {[]api.Node{empty, {}}, 1}, {[]api.Node{{}, empty, {}, {}}, 2},
		{[]api.Node{full, {}, full}, 3}, {[]api.Node{full, {}, {}, empty, {}}, 4},
		{[]api.Node{pointersTo().n}, 1}, {[]api.Node{pointersTo(null).n, {}}, 1}, {[]api.Node{composite().n, {}}, 1},
		{[]api.Node{plain(api.ElemVoid, 0).n, {}}, 1}, {[]api.Node{plain(api.ElemVoid, 9).n}, 1}, {[]api.Node{plain(api.ElemByte, 1, 0).n, {}}, 1},
		{[]api.Node{padded(2, 2, nil).n, {}}, 1}, {[]api.Node{composite(structOf(nil)).n, {}, {}}, 1},
		{[]api.Node{{Data: []byte{}, Kids: []api.Node{}}}, 0},
	} {
		if got := trim.Pointers(x.kids); got != x.want {
			t.Errorf("%d: %d, not %d", i, got, x.want)
		}
	}
}

// All lists of up to eight nodes that are null or not.
func TestPointersOfAllPatterns(t *testing.T) {
	others := []api.Node{structOf(nil).n, pointersTo().n, plain(api.ElemByte, 2, 0, 0).n}
	for size := range 9 {
		for pattern := range 1 << size {
			kids, want := make([]api.Node, size), 0
			for i := range kids {
				if pattern>>i&1 != 0 {
					kids[i], want = others[i%3], i+1
				}
			}
			if got := trim.Pointers(kids); got != want {
				t.Errorf("pattern %b of %d: %d, not %d", pattern, size, got, want)
			}
		}
	}
}

// A node is null by its kind, whatever its other fields hold.
func TestPointersLooksAtKinds(t *testing.T) {
	odd := api.Node{Kind: api.NodeNull, Elem: 3, N: 2, Data: []byte{1}, Kids: []api.Node{structOf(nil).n}}
	if got := trim.Pointers([]api.Node{odd, odd}); got != 0 {
		t.Errorf("nodes of kind NodeNull: %d", got)
	}
	for _, kind := range []int{-1, 3, 1 << 32, math.MaxInt, math.MinInt} {
		if got := trim.Pointers([]api.Node{{}, {Kind: kind}, odd}); got != 2 {
			t.Errorf("kind %d: %d", kind, got)
		}
	}
}

// P11.1: Uniform.

func TestUniform(t *testing.T) {
	for i, x := range []struct {
		elements        []pair
		words, pointers int
	}{
		{nil, 0, 0},
		{[]pair{structOf(nil)}, 0, 0},
		{[]pair{structOf(nil), structOf(nil)}, 0, 0},
		{[]pair{structOf(dataWords(1))}, 1, 0},
		{[]pair{structOf(nil, pointersTo())}, 0, 1},
		{[]pair{structOf(dataWords(1, 2, 3)), structOf(nil, null, pointersTo())}, 3, 2},
		{[]pair{structOf(nil, null, pointersTo()), structOf(dataWords(1, 2, 3))}, 3, 2},
		{[]pair{structOf(nil), structOf(dataWords(1), pointersTo()), structOf(nil)}, 1, 1},
		{[]pair{structOf(dataWords(1, 1), pointersTo()), structOf(dataWords(1), pointersTo(), null, pointersTo())}, 2, 3},
		{[]pair{structOf(nil, structOf(dataWords(1, 2), pointersTo(), pointersTo()))}, 0, 1},
		{[]pair{structOf(nil, composite(structOf(dataWords(1, 2, 3))))}, 0, 1},
		// Zeros at the end count like other words and pointers of the elements.
		{[]pair{padded(2, 3, nil)}, 2, 3},
		{[]pair{structOf(dataWords(1)), padded(4, 0, nil), padded(0, 5, nil, pointersTo())}, 4, 6},
	} {
		words, pointers := trim.Uniform(composite(x.elements...).n)
		if words != x.words || pointers != x.pointers {
			t.Errorf("%d: %d and %d, not %d and %d", i, words, pointers, x.words, x.pointers)
		}
	}
}

// All orders of all small sizes.
func TestUniformOfAllSizes(t *testing.T) {
	sizes := func(yield func(words, pointers int, element pair)) {
		for words := range 3 {
			for pointers := range 3 {
				yield(words, pointers, padded(words, pointers, nil))
			}
		}
	}
	sizes(func(w1, p1 int, a pair) {
		sizes(func(w2, p2 int, b pair) {
			sizes(func(w3, p3 int, c pair) {
				words, pointers := trim.Uniform(composite(a, b, c).n)
				if words != max(w1, w2, w3) || pointers != max(p1, p2, p3) {
					t.Errorf("sizes %d %d, %d %d, %d %d: %d and %d", w1, p1, w2, p2, w3, p3, words, pointers)
				}
			})
		})
	})
}

func TestUniformOfTheLargestElements(t *testing.T) {
	words, pointers := trim.Uniform(composite(structOf(nil), padded(maxSection, 0, nil), padded(1, maxSection, nil)).n)
	if words != maxSection || pointers != maxSection {
		t.Errorf("%d and %d", words, pointers)
	}
	elements := slices.Repeat([]api.Node{structOf(nil).n}, 1<<18)
	elements[1<<17] = structOf(dataWords(1), pointersTo()).n
	words, pointers = trim.Uniform(api.Node{Kind: api.NodeList, Elem: api.ElemComposite, N: len(elements), Kids: elements})
	if words != 1 || pointers != 1 {
		t.Errorf("many elements: %d and %d", words, pointers)
	}
}

// P11.2 and P11.3

func TestTrimOfTheExample(t *testing.T) {
	checkTrim(t, "example", padded(1, 2, dataWords(5)))
	got := trim.Trim(api.Node{Kind: api.NodeStruct, Data: dataWords(5, 0), Kids: make([]api.Node, 2)})
	if got.Kind != api.NodeStruct || !bytes.Equal(got.Data, []byte{5, 0, 0, 0, 0, 0, 0, 0}) || len(got.Kids) != 0 {
		t.Errorf("the example is trimmed to %s", key(got))
	}
}

func TestTrimOfKnownNodes(t *testing.T) {
	bare := structOf(nil)
	zeros := padded(3, 3, nil)
	for name, p := range map[string]pair{
		"null":                              null,
		"empty struct":                      bare,
		"struct of zeros":                   zeros,
		"data only":                         padded(2, 0, dataWords(1)),
		"pointers only":                     padded(0, 2, nil, bare),
		"zeros in between":                  padded(1, 1, dataWords(0, 1, 0, 0, 1), null, bare, null, null, bare),
		"nothing to trim":                   structOf(dataWords(1, 2), null, bare),
		"a word with its last byte":         padded(1, 0, []byte{0, 0, 0, 0, 0, 0, 0, 1}),
		"empty structs stay":                padded(0, 1, nil, bare, bare),
		"structs of zeros stay":             padded(0, 1, nil, zeros, zeros),
		"empty lists stay":                  padded(0, 1, nil, pointersTo(), composite(), plain(api.ElemVoid, 0), plain(api.ElemByte, 0)),
		"lists of zeros stay":               padded(0, 1, nil, pointersTo(null, null), composite(zeros), plain(api.ElemEight, 2, make([]byte, 16)...)),
		"bytes of lists stay":               plain(api.ElemByte, 16, make([]byte, 16)...),
		"words of lists stay":               plain(api.ElemEight, 3, dataWords(1, 0, 0)...),
		"bits of lists stay":                plain(api.ElemBit, 9, 0, 0),
		"null pointers of lists stay":       pointersTo(null, bare, null, null),
		"only null pointers in a list":      pointersTo(null, null, null),
		"structs in lists":                  pointersTo(zeros, null, padded(1, 1, dataWords(1), zeros), null),
		"elements":                          composite(zeros, padded(1, 1, dataWords(1), zeros), zeros),
		"elements stay":                     composite(bare, zeros, bare, bare),
		"elements of elements":              composite(padded(1, 1, nil, composite(zeros, padded(1, 2, nil, zeros))), zeros),
		"lists in structs":                  padded(1, 1, nil, null, pointersTo(composite(zeros), null)),
		"void elements":                     plain(api.ElemVoid, api.MaxCount),
		"structs behind pointers":           padded(1, 1, nil, padded(1, 1, nil, padded(1, 1, nil, zeros))),
		"a kid that is trimmed is not null": padded(0, 0, nil, null, zeros),
	} {
		checkTrim(t, name, p)
	}
}

// Data of every length with every last word that is not zero.
func TestTrimOfAllSections(t *testing.T) {
	for words := range 6 {
		for pointers := range 6 {
			for moreWords := range 4 {
				for morePointers := range 4 {
					data, kids := make([]byte, 8*words), make([]pair, pointers)
					if words > 0 {
						data[len(data)-1-words%8] = 9
					}
					if pointers > 0 {
						kids[pointers-1] = plain(api.ElemByte, 1, 0)
					}
					p := padded(moreWords, morePointers, data, kids...)
					checkTrim(t, "struct", p)
					checkTrim(t, "elements", composite(p, padded(1, 1, nil), p))
				}
			}
		}
	}
}

func TestTrimOfTheLargestStructs(t *testing.T) {
	last := make([]byte, 8*maxSection)
	last[8*maxSection-1] = 1
	kids := make([]pair, maxSection)
	kids[maxSection-1] = plain(api.ElemVoid, 0)
	for _, p := range []pair{
		padded(maxSection, maxSection, nil),
		padded(maxSection-1, maxSection-1, dataWords(1), structOf(nil)),
		structOf(last, kids...),
		composite(padded(maxSection, maxSection, nil), structOf(last, kids...)),
	} {
		if !node.Equal(trim.Trim(p.n), p.trimmed) {
			t.Errorf("a struct of %d bytes and %d pointers is not trimmed", len(p.n.Data), len(p.n.Kids))
		}
	}
}

func TestTrimOfRandomNodes(t *testing.T) {
	r := rand.New(rand.NewSource(21))
	changed := 0
	for range 5000 {
		p := random(r, 1+r.Intn(6))
		checkTrim(t, "random", p)
		if !node.Equal(p.n, p.trimmed) {
			changed++
		}
	}
	if changed < 1000 {
		t.Errorf("only %d nodes were not trimmed already", changed)
	}
}

func TestTrimOfDeepNodes(t *testing.T) {
	for _, depth := range []int{1, 2, 3, 999, 1000} {
		for name, p := range chains(depth) {
			if node.Depth(p.n) != depth {
				t.Fatalf("%s: a chain of depth %d instead of %d", name, node.Depth(p.n), depth)
			}
			checkTrim(t, name, p)
		}
	}
}

func TestTrimOfWideLists(t *testing.T) {
	zeros := padded(1, 1, nil)
	checkTrim(t, "list of pointers", pointersTo(slices.Repeat([]pair{zeros, null}, 40000)...))
	checkTrim(t, "composite list", composite(slices.Repeat([]pair{zeros, padded(1, 1, dataWords(1), zeros)}, 40000)...))
}

// P11.4

func TestArgumentsAreNotModified(t *testing.T) {
	r := rand.New(rand.NewSource(22))
	for range 1000 {
		n := withSpare(random(r, 5).n)
		before := contents(n)
		trim.Trim(n)
		trim.Words(n.Data)
		trim.Pointers(n.Kids)
		trim.Uniform(n)
		if contents(n) != before {
			t.Fatalf("the argument was modified: %.500s", key(n))
		}
	}
}

func TestResultsDoNotShareMemory(t *testing.T) {
	r := rand.New(rand.NewSource(23))
	for range 1000 {
		p := random(r, 5)
		n := withSpare(p.n)
		before := contents(n)
		got := trim.Trim(n)
		scramble(got)
		if contents(n) != before {
			t.Fatalf("a change of the result changes the argument: %.500s", key(p.n))
		}
		got = trim.Trim(n)
		scramble(n)
		if !node.Equal(got, p.trimmed) {
			t.Fatalf("a change of the argument changes the result: %.500s", key(p.n))
		}
	}
}

// Kids that share memory in the argument do not share it in the result.
func TestPartsOfResultsDoNotShareMemory(t *testing.T) {
	leaf := padded(1, 1, dataWords(1), plain(api.ElemByte, 1, 1))
	kid := padded(0, 0, dataWords(2), leaf)
	for _, p := range []pair{structOf(nil, kid, kid), pointersTo(kid, kid), composite(kid, kid)} {
		got := trim.Trim(p.n)
		scramble(got.Kids[0])
		if !node.Equal(got.Kids[1], kid.trimmed) {
			t.Errorf("two kids share memory: %s", key(got))
		}
	}
}

// Bytes and nodes behind the ends of slices are not read.
func TestUnusedCapacityIsNotRead(t *testing.T) {
	data := dataWords(1, 0, 7)
	kids := []api.Node{structOf(nil).n, {}, structOf(nil).n}
	n := api.Node{Kind: api.NodeStruct, Data: data[:16], Kids: kids[:2]}
	if w, p := trim.Words(n.Data), trim.Pointers(n.Kids); w != 1 || p != 1 {
		t.Errorf("%d words and %d pointers", w, p)
	}
	if got := trim.Trim(n); len(got.Data) != 8 || len(got.Kids) != 1 {
		t.Errorf("trimmed to %s", key(got))
	}
}

// P1: the promises leave these results open, but there are no panics.

func TestNoPanicForOtherNodes(t *testing.T) {
	numbers := []int{math.MinInt, -1, 0, 1, 2, 3, 6, 7, 8, math.MaxInt}
	for _, kind := range numbers {
		for _, elem := range numbers {
			for size := range 18 {
				data := bytes.Repeat([]byte{1}, size)
				kid := api.Node{Kind: elem, Elem: kind, N: elem, Data: data[:size:size]}
				n := api.Node{Kind: kind, Elem: elem, N: kind, Data: data[:size:size], Kids: []api.Node{kid, {}}}
				trim.Trim(n)
				trim.Uniform(n)
				trim.Words(n.Data)
			}
		}
	}
}
