package merkle_test

import (
	"bytes"
	"crypto/sha256"
	"fmt"
	"math"
	"slices"
	"testing"

	"mempool/api"
	"mempool/merkle"
)

// shapes has the trees of 1 to 9 leaves, as the definition divides them: a letter is a leaf, and a pair of parentheses an inner node.
var shapes = []string{
	"a",
	"(ab)",
	"((ab)c)",
	"((ab)(cd))",
	"(((ab)(cd))e)",
	"(((ab)(cd))(ef))",
	"(((ab)(cd))((ef)g))",
	"(((ab)(cd))((ef)(gh)))",
	"((((ab)(cd))((ef)(gh)))i)",
}

// paths has the path of each leaf of some of these trees.
var paths = [][][]string{
	1: {{}},
	2: {{"b"}, {"a"}},
	3: {{"b", "c"}, {"a", "c"}, {"(ab)"}},
	4: {{"b", "(cd)"}, {"a", "(cd)"}, {"d", "(ab)"}, {"c", "(ab)"}},
	5: {{"b", "(cd)", "e"}, {"a", "(cd)", "e"}, {"d", "(ab)", "e"}, {"c", "(ab)", "e"}, {"((ab)(cd))"}},
	6: {
		{"b", "(cd)", "(ef)"}, {"a", "(cd)", "(ef)"}, {"d", "(ab)", "(ef)"}, {"c", "(ab)", "(ef)"},
		{"f", "((ab)(cd))"}, {"e", "((ab)(cd))"},
	},
	7: {
		{"b", "(cd)", "((ef)g)"}, {"a", "(cd)", "((ef)g)"}, {"d", "(ab)", "((ef)g)"}, {"c", "(ab)", "((ef)g)"},
		{"f", "g", "((ab)(cd))"}, {"e", "g", "((ab)(cd))"}, {"(ef)", "((ab)(cd))"},
	},
}

// sizes returns numbers of leaves: all small ones, and greater ones beside powers of two.
func sizes() []int {
	var l []int
	for n := range 41 {
		l = append(l, n)
	}
	return append(l, 63, 64, 65, 66, 96, 100, 127, 128, 129, 200, api.MaxTxs-1, api.MaxTxs, api.MaxTxs+1, 1000)
}

// random returns a function that returns another byte at each call, always the same ones.
func random() func() byte {
	x := uint32(1)
	return func() byte {
		x = x*1664525 + 1013904223
		return byte(x >> 24)
	}
}

// varied returns n different leaves of many lengths.
func varied(n int) [][]byte {
	next := random()
	l := make([][]byte, n)
	for i := range l {
		l[i] = []byte(fmt.Sprint(i, " "))
		for range i * 7 % 130 {
			l[i] = append(l[i], next())
		}
	}
	return l
}

// letters returns n leaves, each of which is one letter.
func letters(n int) [][]byte {
	l := make([][]byte, n)
	for i := range l {
		l[i] = []byte{byte('a' + i)}
	}
	return l
}

// leafOf returns the digest of the byte 0 followed by b, as the standard library computes it.
func leafOf(b []byte) api.Key {
	return sha256.Sum256(append([]byte{0}, b...))
}

// innerOf returns the digest of the byte 1, a and b, as the standard library computes it.
func innerOf(a, b api.Key) api.Key {
	return sha256.Sum256(slices.Concat([]byte{1}, a[:], b[:]))
}

// keyOf returns the root of the tree with which the shape s begins, and what is behind it.
func keyOf(s string) (api.Key, string) {
	if s[0] != '(' {
		return leafOf([]byte(s[:1])), s[1:]
	}
	x, s := keyOf(s[1:])
	y, s := keyOf(s)
	return innerOf(x, y), s[1:]
}

// rows returns the roots of the parts of a tree from the leaves on: each row puts two neighbours of the row before together, and takes over a last one without a neighbour. For any number of leaves these are the trees of the definition.
func rows(leaves [][]byte) [][]api.Key {
	row := make([]api.Key, len(leaves))
	for i, b := range leaves {
		row[i] = leafOf(b)
	}
	all := [][]api.Key{row}
	for len(row) > 1 {
		var above []api.Key
		for i := 0; i+1 < len(row); i += 2 {
			above = append(above, innerOf(row[i], row[i+1]))
		}
		if len(row)%2 == 1 {
			above = append(above, row[len(row)-1])
		}
		all, row = append(all, above), above
	}
	return all
}

// rootOf returns the root of the tree of the rows.
func rootOf(all [][]api.Key) api.Key {
	if len(all[0]) == 0 {
		return sha256.Sum256(nil)
	}
	return all[len(all)-1][0]
}

// pathIn returns the path of the leaf i: its neighbours in the rows.
func pathIn(all [][]api.Key, i int) []api.Key {
	var path []api.Key
	for _, row := range all {
		if i^1 < len(row) {
			path = append(path, row[i^1])
		}
		i /= 2
	}
	return path
}

// sides says, for each key of the path of the leaf i of n leaves, whether it is the left one of its pair.
func sides(i, n int) []bool {
	var l []bool
	for n > 1 {
		if i^1 < n {
			l = append(l, i%2 == 1)
		}
		i, n = i/2, n/2+n%2
	}
	return l
}

// together puts the path together from the leaf on.
func together(leaf api.Key, left []bool, path []api.Key) api.Key {
	for j, k := range path {
		if left[j] {
			leaf = innerOf(k, leaf)
		} else {
			leaf = innerOf(leaf, k)
		}
	}
	return leaf
}

// flipped returns k with one bit changed.
func flipped(k api.Key, bit int) api.Key {
	k[bit/8] ^= 1 << (bit % 8)
	return k
}

// with returns a copy of l with k at the place i.
func with(l []api.Key, i int, k api.Key) []api.Key {
	l = slices.Clone(l)
	l[i] = k
	return l
}

// without returns a copy of l without the key at the place i.
func without(l []api.Key, i int) []api.Key {
	return slices.Delete(slices.Clone(l), i, i+1)
}

// keys returns n different keys.
func keys(n int) []api.Key {
	l := make([]api.Key, n)
	for i := range l {
		l[i] = sha256.Sum256([]byte(fmt.Sprint("key ", i)))
	}
	return l
}

// proof is a path with what it belongs to.
type proof struct {
	root api.Key
	leaf []byte
	i, n int
	path []api.Key
}

// proofOf returns the proof of the leaf i, without a call of the package.
func proofOf(leaves [][]byte, i int) proof {
	all := rows(leaves)
	return proof{rootOf(all), leaves[i], i, len(leaves), pathIn(all, i)}
}

func check(t *testing.T, what string, p proof, want bool) {
	t.Helper()
	if got := merkle.Verify(p.root, p.leaf, p.i, p.n, p.path); got != want {
		t.Errorf("Verify of the leaf %d of %d, with a path of %d keys, %s: %v", p.i, p.n, len(p.path), what, got)
	}
}

func checkNoProof(t *testing.T, leaves [][]byte, i int) {
	t.Helper()
	if path, ok := merkle.Proof(leaves, i); len(path) != 0 || ok {
		t.Errorf("Proof of the leaf %d of %d = %x, %v", i, len(leaves), path, ok)
	}
}

// The examples of the chapter.
func TestExamples(t *testing.T) {
	a, b, c := []byte("a"), []byte("b"), []byte("c")
	leaves := [][]byte{a, b, c}
	root := merkle.Root(leaves)
	if want := merkle.Inner(merkle.Inner(merkle.Leaf(a), merkle.Leaf(b)), merkle.Leaf(c)); root != want {
		t.Errorf("example 1: %x; want %x", root, want)
	}
	ofC, ok := merkle.Proof(leaves, 2)
	if want := []api.Key{merkle.Root([][]byte{a, b})}; !ok || !slices.Equal(ofC, want) {
		t.Errorf("example 2: the path of c is %x, %v", ofC, ok)
	}
	ofA, ok := merkle.Proof(leaves, 0)
	if want := []api.Key{merkle.Leaf(b), merkle.Leaf(c)}; !ok || !slices.Equal(ofA, want) {
		t.Errorf("example 2: the path of a is %x, %v", ofA, ok)
	}
	for _, path := range [][]api.Key{nil, ofA, ofC} {
		check(t, "example 3", proof{root, c, 3, 3, path}, false)
	}
}

// P6.1: leaves of many lengths, up to more than a transaction may have.
func TestLeaf(t *testing.T) {
	next := random()
	b := make([]byte, api.MaxTx+2)
	for i := range b {
		b[i] = next()
	}
	for n := 0; n <= len(b); n += 1 + n/64 {
		if k := merkle.Leaf(b[:n]); k != leafOf(b[:n]) {
			t.Errorf("Leaf of %d bytes = %x; want %x", n, k, leafOf(b[:n]))
		}
	}
	for c := range 256 {
		for _, b := range [][]byte{{byte(c)}, {byte(c), 0}, {0, byte(c)}, {1, byte(c)}, bytes.Repeat([]byte{byte(c)}, 64)} {
			if k := merkle.Leaf(b); k != leafOf(b) {
				t.Errorf("Leaf(%x) = %x; want %x", b, k, leafOf(b))
			}
		}
	}
	// What lies behind an empty slice in its array does not count.
	for _, b := range [][]byte{nil, {}, make([]byte, 0, 9), b[:0], b[len(b):]} {
		if k := merkle.Leaf(b); k != sha256.Sum256([]byte{0}) {
			t.Errorf("Leaf of no bytes = %x", k)
		}
	}
}

// P6.1: each bit of both keys, and the order of the keys.
func TestInner(t *testing.T) {
	l := append(keys(12), api.Key{}, flipped(api.Key{}, 0), flipped(api.Key{}, 255))
	for _, a := range l {
		for _, b := range l {
			if k := merkle.Inner(a, b); k != innerOf(a, b) {
				t.Errorf("Inner(%x, %x) = %x; want %x", a, b, k, innerOf(a, b))
			}
		}
	}
	for bit := range 256 {
		a, b := flipped(l[0], bit), flipped(l[1], bit)
		if k := merkle.Inner(a, l[1]); k != innerOf(a, l[1]) {
			t.Errorf("Inner with bit %d of the first key changed = %x", bit, k)
		}
		if k := merkle.Inner(l[0], b); k != innerOf(l[0], b) {
			t.Errorf("Inner with bit %d of the second key changed = %x", bit, k)
		}
	}
}

// P6.1: the trees that are written out.
func TestRootShapes(t *testing.T) {
	for i, s := range shapes {
		want, _ := keyOf(s)
		if k := merkle.Root(letters(i + 1)); k != want {
			t.Errorf("Root of %d leaves = %x; want that of %s, %x", i+1, k, s, want)
		}
	}
}

// P6.1: no leaves, also where some lie behind the end of the slice.
func TestRootOfNothing(t *testing.T) {
	l := letters(3)
	for _, empty := range [][][]byte{nil, {}, make([][]byte, 0, 4), l[:0], l[3:]} {
		if k := merkle.Root(empty); k != sha256.Sum256(nil) {
			t.Errorf("Root of no leaves = %x", k)
		}
	}
	// One empty leaf is not the same as no leaves.
	for _, b := range [][]byte{nil, {}} {
		if k := merkle.Root([][]byte{b}); k != sha256.Sum256([]byte{0}) {
			t.Errorf("Root of an empty leaf = %x", k)
		}
	}
}

// P6.1: many numbers of leaves.
func TestRoot(t *testing.T) {
	l := varied(1000)
	for _, n := range sizes() {
		if k, want := merkle.Root(l[:n]), rootOf(rows(l[:n])); k != want {
			t.Errorf("Root of %d leaves = %x; want %x", n, k, want)
		}
	}
}

// P6.1: the definition, word by word, with the functions of the package.
func TestRootDefinition(t *testing.T) {
	l := varied(1000)
	for _, n := range sizes() {
		if n < 2 {
			continue
		}
		k := 1
		for 2*k < n {
			k *= 2
		}
		if got, want := merkle.Root(l[:n]), merkle.Inner(merkle.Root(l[:k]), merkle.Root(l[k:n])); got != want {
			t.Errorf("Root of %d leaves = %x; want that of %d and %d ones, %x", n, got, k, n-k, want)
		}
	}
}

// P6.1: leaves that are equal, empty, or hold what is hashed elsewhere in a tree.
func TestRootOfSpecialLeaves(t *testing.T) {
	a, b := leafOf([]byte("a")), leafOf([]byte("b"))
	both := slices.Concat(a[:], b[:])
	for _, l := range [][][]byte{
		{nil, nil}, {{}, nil, {}}, {nil, []byte("a")}, {[]byte("a"), nil}, {nil, nil, nil, nil, nil, nil},
		{[]byte("a"), []byte("a")}, {[]byte("a"), []byte("a"), []byte("a")}, {[]byte("ab"), []byte("c")}, {[]byte("a"), []byte("bc")},
		{both}, {append([]byte{1}, both...)}, {append([]byte{0}, 'a')}, {a[:], b[:]}, {a[:], b[:], both},
	} {
		if k, want := merkle.Root(l), rootOf(rows(l)); k != want {
			t.Errorf("Root(%x) = %x; want %x", l, k, want)
		}
	}
	if merkle.Root([][]byte{both}) == merkle.Root([][]byte{[]byte("a"), []byte("b")}) {
		t.Error("the digests of two leaves pass for a leaf")
	}
}

// P6.2: the paths that are written out.
func TestProofShapes(t *testing.T) {
	for n, ofLeaves := range paths {
		for i, shapes := range ofLeaves {
			var want []api.Key
			for _, s := range shapes {
				k, _ := keyOf(s)
				want = append(want, k)
			}
			if path, ok := merkle.Proof(letters(n), i); !ok || !slices.Equal(path, want) {
				t.Errorf("Proof of the leaf %d of %d = %x, %v; want %v, %x", i, n, path, ok, shapes, want)
			}
		}
	}
}

// P6.2: every leaf of trees with many numbers of leaves.
func TestProof(t *testing.T) {
	l := varied(1000)
	for _, n := range sizes() {
		all := rows(l[:n])
		for i := 0; i < n; i += 1 + n/100 {
			if path, ok := merkle.Proof(l[:n], i); !ok || !slices.Equal(path, pathIn(all, i)) {
				t.Errorf("Proof of the leaf %d of %d = %x, %v; want %x", i, n, path, ok, pathIn(all, i))
			}
		}
		if n > 0 {
			if path, ok := merkle.Proof(l[:n], n-1); !ok || !slices.Equal(path, pathIn(all, n-1)) {
				t.Errorf("Proof of the last leaf of %d = %x, %v; want %x", n, path, ok, pathIn(all, n-1))
			}
		}
	}
}

// P6.2: equal leaves and empty ones have the paths of their places.
func TestProofOfSpecialLeaves(t *testing.T) {
	for _, l := range [][][]byte{{nil}, {nil, nil}, {{}, nil, {}}, {{7}, {7}, {7}, {7}, {7}}, {{7}, nil, {7}, nil}} {
		for i := range l {
			p := proofOf(l, i)
			if path, ok := merkle.Proof(l, i); !ok || !slices.Equal(path, p.path) {
				t.Errorf("Proof(%x, %d) = %x, %v; want %x", l, i, path, ok, p.path)
			}
			check(t, "as Proof returns it", p, true)
		}
	}
}

// P6.2: indexes of no leaf, also where leaves lie behind the end of the slice.
func TestProofOfNoLeaf(t *testing.T) {
	l := varied(1000)
	for _, n := range sizes() {
		if n == len(l) {
			continue
		}
		for _, i := range []int{
			-1, -2, -n, -n - 1, n, n + 1, 2*n + 1, math.MinInt32, math.MaxInt32, 1 << 32, 1<<32 + 1, -1 << 32,
			math.MinInt, math.MinInt + 1, math.MaxInt - 1, math.MaxInt,
		} {
			if i < 0 || i >= n {
				checkNoProof(t, l[:n], i)
			}
		}
	}
	for _, i := range []int{0, -1, 1, math.MinInt, math.MaxInt} {
		checkNoProof(t, nil, i)
		checkNoProof(t, [][]byte{}, i)
	}
}

// P6.3 and P6.4: every path that Proof returns, with its root, leaf, index and number.
func TestVerifyProofs(t *testing.T) {
	l := varied(1000)
	for _, n := range sizes() {
		root := merkle.Root(l[:n])
		for i := 0; i < n; i += 1 + n/100 {
			path, ok := merkle.Proof(l[:n], i)
			if !ok {
				t.Errorf("Proof of the leaf %d of %d is false", i, n)
			}
			check(t, "as Proof returns it", proof{root, l[i], i, n, path}, true)
		}
	}
}

// P6.3: with the right answers of a computation that does not call the package.
func TestVerify(t *testing.T) {
	for n := 1; n <= 40; n++ {
		l := varied(n)
		for i := range l {
			check(t, "unchanged", proofOf(l, i), true)
		}
	}
}

// P6.3
func TestVerifyOtherRoot(t *testing.T) {
	for n := 1; n <= 33; n++ {
		l := varied(n)
		for i := range l {
			p := proofOf(l, i)
			others := []api.Key{{}, leafOf(nil), sha256.Sum256(nil), sha256.Sum256(p.root[:]), rootOf(rows(append(l, nil)))}
			for j, k := range p.path {
				// A root that the way to the true one passes, or does not pass.
				others = append(others, k, together(leafOf(p.leaf), sides(i, n)[:j], p.path[:j]))
			}
			for bit := range 256 {
				others = append(others, flipped(p.root, bit))
			}
			for _, k := range others {
				q := p
				q.root = k
				check(t, fmt.Sprintf("and the root %x", k), q, false)
			}
		}
	}
}

// P6.3
func TestVerifyOtherLeaf(t *testing.T) {
	for n := 1; n <= 33; n++ {
		l := varied(n)
		for i := range l {
			p := proofOf(l, i)
			others := [][]byte{nil, {0}, append([]byte{0}, p.leaf...), append([]byte{1}, p.leaf...), append(bytes.Clone(p.leaf), 0), p.leaf[1:], p.leaf[:len(p.leaf)-1], p.root[:]}
			for j := range p.leaf {
				b := bytes.Clone(p.leaf)
				b[j] ^= 1
				others = append(others, b)
			}
			for j := range l {
				if j != i {
					others = append(others, l[j])
				}
			}
			for _, b := range others {
				q := p
				q.leaf = b
				check(t, fmt.Sprintf("and the leaf %x", b), q, false)
			}
		}
	}
}

// P6.3: an inner node that is given as a leaf is none, whatever its bytes are said to be.
func TestVerifyInnerAsLeaf(t *testing.T) {
	l := varied(4)
	all := rows(l)
	first, second := all[0][0], all[0][1]
	node := slices.Concat(first[:], second[:])
	for _, b := range [][]byte{node, append([]byte{1}, node...), append([]byte{0}, node...), all[1][0][:]} {
		check(t, "with an inner node as leaf", proof{all[1][0], b, 0, 1, nil}, false)
		check(t, "with an inner node as leaf", proof{rootOf(all), b, 0, 2, []api.Key{all[1][1]}}, false)
	}
}

// P6.3: every other index, with leaves that are all different.
func TestVerifyOtherIndex(t *testing.T) {
	for n := 1; n <= 33; n++ {
		l := varied(n)
		for i := range l {
			p := proofOf(l, i)
			others := []int{
				-1, -2, -n, -n - 1, ^i, i - n, n, n + 1, i + n, 2*n - 1, 2 * n, 64, i + 64, i + 1<<32, i - 1<<32, -i - 1, math.MinInt32, math.MaxInt32,
				math.MinInt, math.MinInt + 1, math.MinInt + i, math.MinInt + n, math.MaxInt, math.MaxInt - 1, math.MaxInt - i, math.MaxInt - n,
			}
			for j := range n {
				others = append(others, j)
			}
			for _, j := range others {
				if j != i {
					q := p
					q.i = j
					check(t, fmt.Sprintf("that is the path of %d", i), q, false)
				}
			}
		}
	}
}

// P6.3: an index that is not less than n, or is negative, without a path and with any other one.
func TestVerifyNoIndex(t *testing.T) {
	l := keys(80)
	for _, n := range []int{1, 2, 3, 4, 5, 8, 33, 1 << 20, math.MaxInt - 1, math.MaxInt} {
		for _, i := range []int{math.MinInt, math.MinInt + 1, -n, -2, -1, n, math.MaxInt} {
			for m := range len(l) + 1 {
				for _, root := range []api.Key{leafOf(nil), {}, sha256.Sum256(nil), l[0]} {
					check(t, "with an index of no leaf", proof{root, nil, i, n, l[:m]}, false)
				}
			}
		}
	}
}

// P6.3: no number of leaves that is zero or negative has an index.
func TestVerifyNoNumber(t *testing.T) {
	l := keys(70)
	for _, n := range []int{0, -1, -2, -3, -5, math.MinInt32, math.MinInt + 1, math.MinInt} {
		for _, i := range []int{0, 1, -1, n, n - 1, n + 1, math.MinInt, math.MaxInt} {
			for _, m := range []int{0, 1, 2, 62, 63, 64, 65, 70} {
				for _, root := range []api.Key{leafOf(nil), sha256.Sum256(nil), {}} {
					check(t, "without a leaf", proof{root, nil, i, n, l[:m]}, false)
				}
			}
		}
	}
	// Not even with the root to which the path leads among some number of leaves.
	for _, number := range []int{1, 2, 3, 4, 5, 8, 1 << 31, 1 << 62, 1<<62 + 1, math.MaxInt - 1, math.MaxInt} {
		for _, i := range []int{0, 1, 2, 4, number / 2, number - 2, number - 1} {
			if i < 0 || i >= number {
				continue
			}
			left := sides(i, number)
			root := together(leafOf(nil), left, l[:len(left)])
			check(t, "with its number", proof{root, nil, i, number, l[:len(left)]}, true)
			for _, n := range []int{0, -1, -2, -number, i - number, math.MinInt, math.MinInt + 1, math.MinInt + i, math.MinInt + number} {
				check(t, fmt.Sprintf("that is the path among %d", number), proof{root, nil, i, n, l[:len(left)]}, false)
			}
		}
	}
	check(t, "the root of no leaves", proof{merkle.Root(nil), nil, 0, 0, nil}, false)
}

// P6.3 and P6.4: every other number of leaves up to 70: only one that demands the same sides gives the same root.
func TestVerifyOtherNumber(t *testing.T) {
	same, length := 0, 0
	for n := 1; n <= 33; n++ {
		l := varied(n)
		for i := range l {
			p := proofOf(l, i)
			for m := 1; m <= 70; m++ {
				if m <= i {
					continue
				}
				q := p
				q.n = m
				want := slices.Equal(sides(i, m), sides(i, n))
				check(t, fmt.Sprintf("that is the path among %d", n), q, want)
				if want && m != n {
					same++
				}
				if len(sides(i, m)) != len(p.path) {
					length++
				}
			}
			for _, m := range []int{0, -1, -n, i, math.MinInt, math.MinInt + n, 1 << 34, 1<<32 + n, math.MaxInt - 1, math.MaxInt} {
				q := p
				q.n = m
				check(t, fmt.Sprintf("that is the path among %d", n), q, false)
			}
		}
	}
	if same == 0 || length == 0 {
		t.Errorf("%d other numbers with the same sides, and %d with another length", same, length)
	}
}

// P6.3: the index and the number of leaves together, as the sides that they determine.
func TestVerifySides(t *testing.T) {
	path := keys(6)
	leaf := []byte("leaf")
	for n := 1; n <= 24; n++ {
		for i := range n {
			m := len(sides(i, n))
			root := together(leafOf(leaf), sides(i, n), path[:m])
			for other := 1; other <= 24; other++ {
				for j := range other {
					want := slices.Equal(sides(j, other), sides(i, n))
					check(t, fmt.Sprintf("that is the path of %d of %d", i, n), proof{root, leaf, j, other, path[:m]}, want)
				}
			}
		}
	}
}

// P6.3: of equal leaves, each one has the path of the other ones beside it.
func TestVerifyEqualLeaves(t *testing.T) {
	l := [][]byte{[]byte("a"), []byte("a"), []byte("a"), []byte("a")}
	for i := range l {
		for j := range l {
			p := proofOf(l, i)
			p.i = j
			check(t, "of equal leaves", p, true)
		}
	}
	p := proofOf(l[:3], 0)
	p.i = 1
	check(t, "of equal leaves", p, true)
	p.i = 2
	check(t, "of equal leaves with paths of other lengths", p, false)
}

// P6.3 and P6.4: paths that lack keys, at either end or between.
func TestVerifyShortened(t *testing.T) {
	for n := 1; n <= 33; n++ {
		l := varied(n)
		for i := range l {
			p := proofOf(l, i)
			for m := range p.path {
				for _, path := range [][]api.Key{p.path[:m], p.path[m+1:], without(p.path, m)} {
					q := p
					q.path = path
					check(t, "shortened", q, false)
					// Not even with the root that the shorter path leads to.
					q.root = together(leafOf(p.leaf), sides(i, n)[:len(path)], path)
					check(t, "shortened, with its own root", q, false)
					q.root = together(leafOf(p.leaf), sides(i, n)[len(p.path)-len(path):], path)
					check(t, "shortened, with its own root", q, false)
				}
			}
			q := p
			q.path = nil
			check(t, "emptied", q, n == 1)
			q.root = leafOf(p.leaf)
			check(t, "emptied, with its own root", q, n == 1)
		}
	}
}

// P6.3 and P6.4: paths with another key, or many others, at any place.
func TestVerifyLengthened(t *testing.T) {
	for n := 1; n <= 33; n++ {
		l := varied(n)
		for i := range l {
			p := proofOf(l, i)
			for _, k := range append([]api.Key{{}, p.root, leafOf(p.leaf), leafOf(nil), sha256.Sum256(nil)}, p.path...) {
				for j := range len(p.path) + 1 {
					q := p
					q.path = slices.Insert(slices.Clone(p.path), j, k)
					check(t, "lengthened", q, false)
					for _, left := range []bool{false, true} {
						q.root = together(leafOf(p.leaf), slices.Insert(sides(i, n), j, left), q.path)
						check(t, "lengthened, with its own root", q, false)
					}
				}
			}
			for _, more := range []int{2, 3, 63, 64, 65, 300} {
				for _, path := range [][]api.Key{append(keys(more), p.path...), append(slices.Clone(p.path), keys(more)...)} {
					q := p
					q.path = path
					check(t, "lengthened", q, false)
				}
			}
		}
	}
}

// P6.3: paths of the right length with another key, or with their keys in another order.
func TestVerifyChanged(t *testing.T) {
	for n := 2; n <= 33; n++ {
		l := varied(n)
		for i := range l {
			p := proofOf(l, i)
			for j, k := range p.path {
				for _, other := range []api.Key{{}, p.root, leafOf(p.leaf), leafOf(nil), flipped(k, 0), flipped(k, 7), flipped(k, 100), flipped(k, 255)} {
					q := p
					q.path = with(p.path, j, other)
					check(t, "changed", q, false)
				}
				for m := range j {
					q := p
					q.path = with(with(p.path, j, p.path[m]), m, k)
					check(t, "with two keys exchanged", q, false)
				}
			}
		}
	}
}

// P6.3: each bit of each key of a path, of the leaf and of the root.
func TestVerifyBits(t *testing.T) {
	l := varied(13)
	for _, i := range []int{0, 5, 12} {
		p := proofOf(l, i)
		for bit := range 256 {
			for j, k := range p.path {
				q := p
				q.path = with(p.path, j, flipped(k, bit))
				check(t, "with one bit changed", q, false)
			}
		}
	}
}

// P6.3: numbers of leaves near the end of the range of int, and the lengths that they demand.
func TestVerifyGreatNumbers(t *testing.T) {
	all := keys(70)
	leaf := []byte("leaf")
	for _, n := range []int{1 << 31, 1<<31 + 1, 1<<32 - 1, 1 << 32, 1<<32 + 1, 1 << 61, 1<<62 - 1, 1 << 62, 1<<62 + 1, 1<<62 + 1<<40 + 3, math.MaxInt - 1, math.MaxInt} {
		for _, i := range []int{0, 1, 2, 12345, n / 3, n/2 - 1, n / 2, n/2 + 1, 1<<62 - 1, 1 << 62, 1<<62 + 1, n - 3, n - 2, n - 1} {
			if i >= n {
				continue
			}
			left := sides(i, n)
			root := together(leafOf(leaf), left, all[:len(left)])
			for m := range len(all) + 1 {
				check(t, "in a great tree", proof{root, leaf, i, n, all[:m]}, m == len(left))
			}
			if i^1 < n {
				check(t, "beside another leaf", proof{root, leaf, i ^ 1, n, all[:len(left)]}, false)
			}
		}
	}
	check(t, "of an early leaf of a great tree", proof{leafOf(leaf), leaf, 0, math.MaxInt, nil}, false)
	check(t, "of the last leaf of a great tree", proof{leafOf(leaf), leaf, math.MaxInt - 1, math.MaxInt, nil}, false)
}

// P6.3: paths far longer than those of any tree.
func TestVerifyLongPaths(t *testing.T) {
	for _, m := range []int{64, 65, 100, 1000, 1 << 16, 1 << 20} {
		path := make([]api.Key, m)
		for _, n := range []int{math.MinInt, -1, 0, 1, 2, 3, 1 << 16, 1 << 20, 1 << 62, math.MaxInt - 1, math.MaxInt} {
			for _, i := range []int{math.MinInt, -1, 0, 1, n / 2, n - 1, n, math.MaxInt - 1, math.MaxInt} {
				check(t, "too long", proof{leafOf(nil), nil, i, n, path}, false)
			}
		}
	}
}

// P6.3 with R2: nil and empty paths and leaves are equivalent.
func TestVerifyNothing(t *testing.T) {
	behind := keys(3)
	for _, path := range [][]api.Key{nil, {}, make([]api.Key, 0, 4), behind[:0], behind[3:]} {
		for _, leaf := range [][]byte{nil, {}, []byte("abc")[:0], []byte("abc")[3:]} {
			check(t, "nothing", proof{sha256.Sum256([]byte{0}), leaf, 0, 1, path}, true)
			check(t, "nothing", proof{sha256.Sum256(nil), leaf, 0, 1, path}, false)
			check(t, "nothing", proof{api.Key{}, leaf, 0, 1, path}, false)
			check(t, "nothing", proof{sha256.Sum256([]byte{0}), leaf, 0, 2, path}, false)
		}
	}
}

// R2: neither an argument nor what lies behind it in its array is changed.
func TestArgumentsStay(t *testing.T) {
	whole := varied(40)
	text := bytes.Repeat([]byte("what lies behind a leaf "), 40)
	for i := range whole {
		// Leaves with spare capacity, which is the next leaf.
		whole[i] = text[i*24 : i*24+i%24]
	}
	textBefore := bytes.Clone(text)
	before := slices.Clone(whole)
	path := keys(40)
	pathBefore := slices.Clone(path)
	for n := range len(whole) + 1 {
		merkle.Root(whole[:n])
		merkle.Root(whole[n:])
		for i := -1; i <= n; i++ {
			merkle.Proof(whole[:n], i)
			p, _ := merkle.Proof(whole[n:], i)
			for m := range 9 {
				merkle.Verify(path[0], text[:m], i, n, path[:m])
				merkle.Verify(path[0], text[:m], i, n, path[m:])
				merkle.Verify(path[0], text[m:], i, n, p)
			}
		}
		merkle.Leaf(text[:n])
		merkle.Leaf(text[n:])
	}
	if !bytes.Equal(text, textBefore) {
		t.Error("the bytes of the leaves, or those behind them, have changed")
	}
	for i := range whole {
		if len(whole[i]) != len(before[i]) || cap(whole[i]) != cap(before[i]) || len(whole[i]) > 0 && &whole[i][0] != &before[i][0] {
			t.Errorf("the leaf %d is another one", i)
		}
	}
	if !slices.Equal(path, pathBefore) {
		t.Error("the path has changed")
	}
}

// R2: a path shares no memory with another path, its spare capacity included, nor with the leaves.
func TestResultsApart(t *testing.T) {
	for n := 1; n <= 33; n++ {
		l := varied(n)
		for i := range l {
			want := pathIn(rows(l), i)
			first, _ := merkle.Proof(l, i)
			second, _ := merkle.Proof(l, i)
			first = first[:cap(first)]
			for j := range first {
				first[j] = api.Key{1, 2, 3}
			}
			if third, _ := merkle.Proof(l, i); !slices.Equal(second, want) || !slices.Equal(third, want) {
				t.Errorf("Proof of the leaf %d of %d shares memory with another one", i, n)
			}
			for _, b := range l {
				for j := range b {
					b[j]++
				}
			}
			if !slices.Equal(second, want) {
				t.Errorf("Proof of the leaf %d of %d shares memory with the leaves", i, n)
			}
			l = varied(n)
		}
	}
}

// R3: the same calls give the same results, whatever was called between them.
func TestRepeated(t *testing.T) {
	l := varied(11)
	p := proofOf(l, 6)
	for range 3 {
		merkle.Root(varied(7))
		merkle.Proof(letters(9), 4)
		check(t, "with another root", proof{p.path[0], p.leaf, 6, 11, p.path}, false)
		if k := merkle.Root(l); k != p.root {
			t.Errorf("Root = %x; want %x", k, p.root)
		}
		if path, ok := merkle.Proof(l, 6); !ok || !slices.Equal(path, p.path) {
			t.Errorf("Proof = %x, %v; want %x", path, ok, p.path)
		}
		check(t, "again", p, true)
	}
}
