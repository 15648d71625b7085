package merkle_test

// The chapter's words, read plainly, over another SHA-256: what the package is held against.

import (
	"bytes"
	"crypto/sha256"
	"math"
	"math/rand"
	"slices"
	"strconv"

	"almoner/api"
)

// badWidths may not be.
var badWidths = []int{0, -1, 33, 34, math.MinInt, math.MaxInt, 256, 1 << 32}

// extremes lie outside of every list.
var extremes = []int{math.MinInt, math.MinInt + 1, -2, -1, 1 << 32, math.MaxInt - 1, math.MaxInt}

func hashWord(w int, parts ...[]byte) []byte {
	all := sha256.Sum256(slices.Concat(parts...))
	return all[:w:w]
}

func leafWord(w int, entry []byte) []byte { return hashWord(w, []byte{0}, entry) }

func nodeWord(w int, left, right []byte) []byte { return hashWord(w, []byte{1}, left, right) }

// kWord tells the greatest power of 2 below n.
func kWord(n int) int {
	k := 1
	for k <= (n-1)/2 {
		k *= 2
	}
	return k
}

func rootWord(w int, d [][]byte) []byte {
	switch len(d) {
	case 0:
		return hashWord(w)
	case 1:
		return leafWord(w, d[0])
	}
	k := kWord(len(d))
	return nodeWord(w, rootWord(w, d[:k]), rootWord(w, d[k:]))
}

func pathWord(w int, d [][]byte, i int) [][]byte {
	if len(d) == 1 {
		return nil
	}
	k := kWord(len(d))
	if i < k {
		return append(pathWord(w, d[:k], i), rootWord(w, d[k:]))
	}
	return append(pathWord(w, d[k:], i-k), rootWord(w, d[:k]))
}

func proofWord(w int, d [][]byte, m int) [][]byte {
	if m == 0 || m == len(d) {
		return nil
	}
	return subWord(w, m, d, true)
}

func subWord(w, m int, d [][]byte, whole bool) [][]byte {
	k := kWord(len(d))
	switch {
	case m == len(d) && whole:
		return nil
	case m == len(d):
		return [][]byte{rootWord(w, d)}
	case m <= k:
		return append(subWord(w, m, d[:k], whole), rootWord(w, d[k:]))
	}
	return append(subWord(w, m-k, d[k:], false), rootWord(w, d[:k]))
}

func manyWord(w int, d [][]byte, places []int) [][]byte {
	if len(places) == 0 {
		return [][]byte{rootWord(w, d)}
	}
	if len(d) == 1 {
		return nil
	}
	k := kWord(len(d))
	below, others := cutWord(places, k)
	return append(manyWord(w, d[:k], below), manyWord(w, d[k:], others)...)
}

// cutWord tells the places below k, and the others, each less k.
func cutWord(places []int, k int) (below, others []int) {
	for _, p := range places {
		if p < k {
			below = append(below, p)
		} else {
			others = append(others, p-k)
		}
	}
	return below, others
}

// mayPlaces tells whether places are rising numbers from 0 to n - 1, none twice.
func mayPlaces(places []int, n int) bool {
	for j, p := range places {
		if p < 0 || p >= n || j > 0 && p <= places[j-1] {
			return false
		}
	}
	return true
}

// ofWidth tells whether w may be, and each of hashes has w bytes.
func ofWidth(w int, hashes ...[]byte) bool {
	return w >= 1 && w <= api.MaxWidth && !slices.ContainsFunc(hashes, func(h []byte) bool { return len(h) != w })
}

// checkPathWord tells what P4.3 asks.
func checkPathWord(w int, leaf []byte, i, n int, path [][]byte, root []byte) bool {
	if !ofWidth(w, leaf, root) || !ofWidth(w, path...) || i < 0 || i >= n {
		return false
	}
	top, ok := pathTopWord(w, leaf, i, n, path)
	return ok && bytes.Equal(top, root)
}

// pathTopWord goes up by the bits of the place and of the last place (RFC 9162, 2.1.3.2): another way than halving.
func pathTopWord(w int, leaf []byte, i, n int, path [][]byte) ([]byte, bool) {
	at, last, r := uint(i), uint(n-1), leaf
	for _, p := range path {
		if last == 0 {
			return nil, false
		}
		if at%2 == 1 || at == last {
			r = nodeWord(w, p, r)
			for at%2 == 0 && at != 0 {
				at, last = at/2, last/2
			}
		} else {
			r = nodeWord(w, r, p)
		}
		at, last = at/2, last/2
	}
	return r, last == 0
}

// checkProofWord tells what P4.4 asks.
func checkProofWord(w, m, n int, old, root []byte, proof [][]byte) bool {
	if !ofWidth(w, old, root) || !ofWidth(w, proof...) || m < 0 || m > n {
		return false
	}
	if m == 0 {
		return len(proof) == 0 && bytes.Equal(old, hashWord(w)) && (n != 0 || bytes.Equal(root, hashWord(w)))
	}
	if m == n {
		return len(proof) == 0 && bytes.Equal(old, root)
	}
	first, all, ok := proofTopsWord(w, m, n, old, proof)
	return ok && bytes.Equal(first, old) && bytes.Equal(all, root)
}

// proofTopsWord goes up likewise (RFC 9162, 2.1.4.2), for m above 0 and below n.
func proofTopsWord(w, m, n int, old []byte, proof [][]byte) (first, all []byte, ok bool) {
	if m&(m-1) == 0 {
		proof = append([][]byte{old}, proof...)
	}
	if len(proof) == 0 {
		return nil, nil, false
	}
	at, last := uint(m-1), uint(n-1)
	for at%2 == 1 {
		at, last = at/2, last/2
	}
	first, all = proof[0], proof[0]
	for _, c := range proof[1:] {
		if last == 0 {
			return nil, nil, false
		}
		if at%2 == 1 || at == last {
			first, all = nodeWord(w, c, first), nodeWord(w, c, all)
			for at%2 == 0 && at != 0 {
				at, last = at/2, last/2
			}
		} else {
			all = nodeWord(w, all, c)
		}
		at, last = at/2, last/2
	}
	return first, all, last == 0
}

// checkManyWord tells what P4.5 asks.
func checkManyWord(w int, leaves [][]byte, places []int, n int, hashes [][]byte, root []byte) bool {
	if !ofWidth(w, root) || !ofWidth(w, leaves...) || !ofWidth(w, hashes...) {
		return false
	}
	if n < 0 || !mayPlaces(places, n) || len(leaves) != len(places) {
		return false
	}
	top, unused, ok := manyTopWord(w, leaves, places, n, hashes)
	return ok && len(unused) == 0 && bytes.Equal(top, root)
}

// manyTopWord reads the word of the hashes for places, with these in the place of the roots.
func manyTopWord(w int, leaves [][]byte, places []int, n int, hashes [][]byte) (top []byte, unused [][]byte, ok bool) {
	if len(places) == 0 {
		if len(hashes) == 0 {
			return nil, nil, false
		}
		return hashes[0], hashes[1:], true
	}
	if n == 1 {
		return leaves[0], hashes, true
	}
	k := kWord(n)
	below, others := cutWord(places, k)
	left, hashes, ok := manyTopWord(w, leaves[:len(below)], below, k, hashes)
	if !ok {
		return nil, nil, false
	}
	right, hashes, ok := manyTopWord(w, leaves[len(below):], others, n-k, hashes)
	if !ok {
		return nil, nil, false
	}
	return nodeWord(w, left, right), hashes, true
}

// manyLenWord tells how many hashes there are for places.
func manyLenWord(places []int, n int) int {
	if len(places) == 0 {
		return 1
	}
	if n == 1 {
		return 0
	}
	k := kWord(n)
	below, others := cutWord(places, k)
	return manyLenWord(below, k) + manyLenWord(others, n-k)
}

// pathLenWord tells how many hashes the path of i of n has.
func pathLenWord(i, n int) int {
	if n == 1 {
		return 0
	}
	k := kWord(n)
	if i < k {
		return 1 + pathLenWord(i, k)
	}
	return 1 + pathLenWord(i-k, n-k)
}

// proofLenWord tells how many hashes SUB has.
func proofLenWord(m, n int, whole bool) int {
	k := kWord(n)
	switch {
	case m == n && whole:
		return 0
	case m == n:
		return 1
	case m <= k:
		return 1 + proofLenWord(m, k, whole)
	}
	return 1 + proofLenWord(m-k, n-k, false)
}

// rfcEntries tells the entries of RFC 6962's own tests.
func rfcEntries() [][]byte {
	d := [][]byte{{}, {0x00}, {0x10}, {0x20, 0x21}, {0x30, 0x31}, {0x40, 0x41, 0x42, 0x43}, {}, {}}
	for i := range byte(8) {
		d[6] = append(d[6], 0x50+i)
	}
	for i := range byte(16) {
		d[7] = append(d[7], 0x60+i)
	}
	return d
}

// entriesOf tells n entries of unlike lengths, empty and equal ones among them.
func entriesOf(n int) [][]byte {
	d := make([][]byte, n)
	for i := range d {
		switch i % 5 {
		case 0:
			d[i] = nil
		case 1:
			d[i] = []byte("the same")
		default:
			d[i] = bytes.Repeat([]byte(strconv.Itoa(i)), i%7*10)
		}
	}
	return d
}

func randomHash(r *rand.Rand, w int) []byte {
	h := make([]byte, w)
	r.Read(h)
	return h
}

func randomHashes(r *rand.Rand, w, n int) [][]byte {
	l := make([][]byte, n)
	for i := range l {
		l[i] = randomHash(r, w)
	}
	return l
}

func same(a, b [][]byte) bool { return slices.EqualFunc(a, b, bytes.Equal) }

// copied tells a list of its own, each of its lists too.
func copied(l [][]byte) [][]byte {
	c := make([][]byte, len(l))
	for i := range l {
		c[i] = bytes.Clone(l[i])
	}
	return c
}

// subsets tells each list of rising places below n.
func subsets(n int) [][]int {
	var all [][]int
	for bits := range 1 << n {
		var l []int
		for i := range n {
			if bits>>i&1 == 1 {
				l = append(l, i)
			}
		}
		all = append(all, l)
	}
	return all
}
