package merkle

import (
	"bytes"
	"math/bits"
	"slices"

	"almoner/api"
	"almoner/sha"
)

// Tree is one that grows.
//
// It keeps the roots that never change again, those of the whole trees of 2^h entries: all that it tells is one of these, or made of a few of them.
type Tree struct {
	w     int
	n     int
	whole [][]byte // at h: the roots of 2^h entries each, w bytes each, one behind the other
}

// New makes one without entries.
func New(w int) *Tree { return &Tree{w: w} }

// Add puts an entry behind the others, and tells its place.
func (t *Tree) Add(entry []byte) int {
	if mayBe(t.w) {
		t.keep(0, Leaf(t.w, entry))
	}
	t.n++
	return t.n - 1
}

// keep puts the root of 2^h entries behind those that are there, and, where it makes a pair whole, the pair's root likewise.
func (t *Tree) keep(h int, root []byte) {
	if h == len(t.whole) {
		t.whole = append(t.whole, nil)
	}
	t.whole[h] = append(t.whole[h], root...)
	if count := len(t.whole[h]) / t.w; count%2 == 0 {
		t.keep(h+1, Node(t.w, t.kept(h, count-2), t.kept(h, count-1)))
	}
}

// kept tells the root of the jth 2^h entries, as it lies in the tree.
func (t *Tree) kept(h, j int) []byte { return t.whole[h][j*t.w : (j+1)*t.w] }

// Len tells how many there are.
func (t *Tree) Len() int { return t.n }

// Peaks tells the roots of the whole trees that stand side by side, from the greatest on.
func (t *Tree) Peaks() [][]byte {
	if !t.has(t.n) || t.n == 0 {
		return nil
	}
	return t.first(t.n).peaks()
}

// Root tells the root of the first n entries.
func (t *Tree) Root(n int) ([]byte, api.Errno) {
	if !t.has(n) {
		return nil, api.EARG
	}
	return t.first(n).root(), api.OK
}

// Path tells the path of the entry i among the first n.
func (t *Tree) Path(i, n int) ([][]byte, api.Errno) {
	if !t.has(n) || i < 0 || i >= n {
		return nil, api.EARG
	}
	return t.first(n).beside(span{i, 1}), api.OK
}

// Proof tells the proof from the first m entries to the first n.
func (t *Tree) Proof(m, n int) ([][]byte, api.Errno) {
	if !t.has(n) || m < 0 || m > n {
		return nil, api.EARG
	}
	if m == 0 {
		return nil, api.OK
	}
	return t.first(n).proof(m), api.OK
}

// Many tells the hashes for some entries, told by rising places, among the first n.
func (t *Tree) Many(places []int, n int) ([][]byte, api.Errno) {
	if !t.has(n) || !rising(places, n) {
		return nil, api.EARG
	}
	return t.first(n).many(places), api.OK
}

// has tells whether hashes of the first n entries can be told.
func (t *Tree) has(n int) bool { return mayBe(t.w) && n >= 0 && n <= t.n }

func (t *Tree) first(n int) part { return part{t, span{0, n}} }

// part is one of a tree's.
type part struct {
	tree *Tree
	span
}

func (p part) halves() (first, others part) {
	a, b := p.span.halves()
	return part{p.tree, a}, part{p.tree, b}
}

// isWhole tells whether the part has a power of 2 of entries: then its root is kept.
func (p part) isWhole() bool { return bits.OnesCount(uint(p.n)) == 1 }

func (p part) root() []byte {
	if p.n == 0 {
		return sha.Sum(p.tree.w, nil)
	}
	if p.isWhole() {
		return bytes.Clone(p.tree.kept(bits.TrailingZeros(uint(p.n)), p.from/p.n))
	}
	first, others := p.halves()
	return Node(p.tree.w, first.root(), others.root())
}

func (p part) peaks() [][]byte {
	if p.isWhole() {
		return [][]byte{p.root()}
	}
	first, others := p.halves()
	return append([][]byte{first.root()}, others.peaks()...)
}

// beside tells the roots of the halves that are left aside on the way to a part, from the part's side on: of an entry, that is its path.
func (p part) beside(target span) [][]byte {
	if p.span == target {
		return nil
	}
	first, others := p.halves()
	if target.liesBefore(others.span) {
		return append(first.beside(target), others.root())
	}
	return append(others.beside(target), first.root())
}

// proof tells the proof from the first m, m above 0: whoever has the root of the first m has that of the end too where SUB is whole there; else it must be told.
func (p part) proof(m int) [][]byte {
	end := p.end(m)
	beside := p.beside(end)
	if end.from == 0 {
		return beside
	}
	return append([][]byte{part{p.tree, end}.root()}, beside...)
}

// many tells the hashes for places, which are told as those of the whole tree.
func (p part) many(places []int) [][]byte {
	if len(places) == 0 {
		return [][]byte{p.root()}
	}
	if p.n == 1 {
		return nil
	}
	first, others := p.halves()
	below, _ := slices.BinarySearch(places, others.from)
	return append(first.many(places[:below]), others.many(places[below:])...)
}
