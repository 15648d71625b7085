package merkle

import (
	"bytes"
	"slices"

	"almoner/sha"
)

// CheckPath tells whether a path leads from a leaf's hash at i of n to a root.
func CheckPath(w int, leaf []byte, i, n int, path [][]byte, root []byte) bool {
	if !mayBe(w) || i < 0 || i >= n || !wide(w, leaf, root) || !wide(w, path...) {
		return false
	}
	c, all := ofEntry(w, leaf, i, path), span{0, n}
	return c.fits(all) && bytes.Equal(c.top(all), root)
}

// CheckProof tells whether a proof leads from the root of m entries to that of n.
func CheckProof(w, m, n int, old, root []byte, proof [][]byte) bool {
	if !mayBe(w) || m < 0 || m > n || !wide(w, old, root) || !wide(w, proof...) {
		return false
	}
	if m == 0 {
		nothing := sha.Sum(w, nil)
		return len(proof) == 0 && bytes.Equal(old, nothing) && (n > 0 || bytes.Equal(root, nothing))
	}
	c, ok := ofProof(w, m, n, old, proof)
	all := span{0, n}
	return ok && c.fits(all) && bytes.Equal(c.older(all), old) && bytes.Equal(c.top(all), root)
}

// CheckMany tells whether hashes lead from leaves' hashes at rising places of n to a root.
func CheckMany(w int, leaves [][]byte, places []int, n int, hashes [][]byte, root []byte) bool {
	if !mayBe(w) || n < 0 || !rising(places, n) || len(leaves) != len(places) {
		return false
	}
	if !wide(w, root) || !wide(w, leaves...) || !wide(w, hashes...) {
		return false
	}
	m := manyClaim{w, hashes}
	top := m.top(span{0, n}, leaves, places)
	return len(m.unused) == 0 && bytes.Equal(top, root)
}

// wide tells whether each of hashes has w bytes.
func wide(w int, hashes ...[]byte) bool {
	for _, hash := range hashes {
		if len(hash) != w {
			return false
		}
	}
	return true
}

// manyClaim is the hashes for places of which some may be used already.
type manyClaim struct {
	w      int
	unused [][]byte
}

// top tells the root of s, as it comes out of leaves and hashes; none, as soon as there are too few hashes, so that places in a great tree do not make it long.
func (m *manyClaim) top(s span, leaves [][]byte, places []int) []byte {
	if len(places) == 0 {
		return m.next()
	}
	if s.n == 1 {
		return leaves[0]
	}
	first, others := s.halves()
	below, _ := slices.BinarySearch(places, others.from)
	left := m.top(first, leaves[:below], places[:below])
	if left == nil {
		return nil
	}
	right := m.top(others, leaves[below:], places[below:])
	if right == nil {
		return nil
	}
	return Node(m.w, left, right)
}

func (m *manyClaim) next() []byte {
	if len(m.unused) == 0 {
		return nil
	}
	hash := m.unused[0]
	m.unused = m.unused[1:]
	return hash
}
