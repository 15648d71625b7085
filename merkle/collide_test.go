package merkle_test

import (
	"bytes"
	"math/rand"
	"slices"
	"testing"

	"almoner/merkle"
	"almoner/sha"
)

// bytesUp tells, from the root down, what is hashed in going up from a leaf with a path, and where that leads.
func bytesUp(w int, leaf []byte, i, n int, path [][]byte) (down [][]byte, top []byte) {
	if n == 1 {
		return nil, leaf
	}
	k, last := kWord(n), len(path)-1
	var joined []byte
	if i < k {
		down, top = bytesUp(w, leaf, i, k, path[:last])
		joined = slices.Concat([]byte{1}, top, path[last])
	} else {
		down, top = bytesUp(w, leaf, i-k, n-k, path[:last])
		joined = slices.Concat([]byte{1}, path[last], top)
	}
	return append([][]byte{joined}, down...), hashWord(w, joined)
}

// bytesOfPath tells, from the root down, what the root of d is made of on the way to the entry i.
func bytesOfPath(w int, d [][]byte, i int) [][]byte {
	if len(d) == 1 {
		return nil
	}
	k := kWord(len(d))
	joined := slices.Concat([]byte{1}, rootWord(w, d[:k]), rootWord(w, d[k:]))
	if i < k {
		return append([][]byte{joined}, bytesOfPath(w, d[:k], i)...)
	}
	return append([][]byte{joined}, bytesOfPath(w, d[k:], i-k)...)
}

// bytesUpSub tells, from the root down, what is hashed for all n in going through SUB with a proof's hashes, and where that leads.
func bytesUpSub(w, m, n int, whole bool, old []byte, proof [][]byte) (down [][]byte, all []byte) {
	if m == n && whole {
		return nil, old
	}
	if m == n {
		return nil, proof[0]
	}
	k, last := kWord(n), len(proof)-1
	var joined []byte
	if m <= k {
		down, all = bytesUpSub(w, m, k, whole, old, proof[:last])
		joined = slices.Concat([]byte{1}, all, proof[last])
	} else {
		down, all = bytesUpSub(w, m-k, n-k, false, old, proof[:last])
		joined = slices.Concat([]byte{1}, proof[last], all)
	}
	return append([][]byte{joined}, down...), hashWord(w, joined)
}

// bytesOfSub tells, from the root down, what the root of d is made of on the way of SUB.
func bytesOfSub(w, m int, d [][]byte) [][]byte {
	if m == len(d) {
		return nil
	}
	k := kWord(len(d))
	joined := slices.Concat([]byte{1}, rootWord(w, d[:k]), rootWord(w, d[k:]))
	if m <= k {
		return append([][]byte{joined}, bytesOfSub(w, m, d[:k])...)
	}
	return append([][]byte{joined}, bytesOfSub(w, m-k, d[k:])...)
}

// firstUnlike tells the first two that differ, and where.
func firstUnlike(up, tree [][]byte) (a, b []byte, at int) {
	for i := range up {
		if !bytes.Equal(up[i], tree[i]) {
			return up[i], tree[i], i
		}
	}
	return nil, nil, -1
}

// lookPath holds CollidePath against the words; it tells how deep the two lie: -1, if there are none.
func lookPath(t *testing.T, w int, d [][]byte, i int, leaf []byte, path [][]byte) int {
	t.Helper()
	var a, b []byte
	at := -1
	if checkPathWord(w, leaf, i, len(d), path, rootWord(w, d)) && !bytes.Equal(leaf, leafWord(w, d[i])) {
		up, _ := bytesUp(w, leaf, i, len(d), path)
		a, b, at = firstUnlike(up, bytesOfPath(w, d, i))
	}
	x, y, ok := merkle.CollidePath(w, d, i, leaf, path)
	if !bytes.Equal(x, a) || !bytes.Equal(y, b) || ok != (at >= 0) {
		t.Fatalf("P4.7: CollidePath(%d, %d entries, %d, %x, %x): %x, %x, %v, want %x, %x", w, len(d), i, leaf, path, x, y, ok, a, b)
	}
	if ok && (bytes.Equal(x, y) || !bytes.Equal(sha.Sum(w, x), sha.Sum(w, y))) {
		t.Fatalf("P4.8: %x and %x are no two with one hash", x, y)
	}
	return at
}

// lookProof holds CollideProof against the words, likewise.
func lookProof(t *testing.T, w int, d [][]byte, m int, old []byte, proof [][]byte) int {
	t.Helper()
	var a, b []byte
	at := -1
	if checkProofWord(w, m, len(d), old, rootWord(w, d), proof) && !bytes.Equal(old, rootWord(w, d[:m])) {
		up, _ := bytesUpSub(w, m, len(d), true, old, proof)
		a, b, at = firstUnlike(up, bytesOfSub(w, m, d))
		if at < 0 {
			t.Fatalf("P4.8: a proof from %d to %d leads from another root, and no two differ", m, len(d))
		}
	}
	x, y, ok := merkle.CollideProof(w, d, m, old, proof)
	if !bytes.Equal(x, a) || !bytes.Equal(y, b) || ok != (at >= 0) {
		t.Fatalf("P4.7: CollideProof(%d, %d entries, %d, %x, %x): %x, %x, %v, want %x, %x", w, len(d), m, old, proof, x, y, ok, a, b)
	}
	if ok && (bytes.Equal(x, y) || !bytes.Equal(sha.Sum(w, x), sha.Sum(w, y))) {
		t.Fatalf("P4.8: %x and %x are no two with one hash", x, y)
	}
	return at
}

// TestForgedPaths puts each byte for the leaf and each for one hash of the path, the others being right: so the two are found at each depth.
func TestForgedPaths(t *testing.T) {
	const w = 1
	for _, n := range []int{2, 3, 5, 6, 8} {
		d := entriesOf(n)
		root := merkle.Root(w, d)
		for i := 0; i < n; i += 1 + n/4 {
			right, _ := merkle.Path(w, d, i)
			found := make([]int, len(right))
			for j := range right {
				for x := range 1 << 16 {
					path, leaf := slices.Clone(right), []byte{byte(x >> 8)}
					path[j] = []byte{byte(x)}
					if merkle.CheckPath(w, leaf, i, n, path, root) {
						if at := lookPath(t, w, d, i, leaf, path); at >= 0 {
							found[at]++
						}
					}
				}
			}
			if slices.Contains(found, 0) {
				t.Errorf("P4.7: two for %d of %d by depth: %v", i, n, found)
			}
		}
	}
}

// TestForgedPathsOfChance makes all of leaf and path up.
func TestForgedPathsOfChance(t *testing.T) {
	const w = 1
	r, found := rand.New(rand.NewSource(4)), 0
	for n := 1; n < 18; n++ {
		d := entriesOf(n)
		root := merkle.Root(w, d)
		for i := range n {
			for range 1000 {
				leaf, path := randomHash(r, w), randomHashes(r, w, pathLenWord(i, n))
				if merkle.CheckPath(w, leaf, i, n, path, root) && lookPath(t, w, d, i, leaf, path) >= 0 {
					found++
				}
			}
		}
	}
	if found < 100 {
		t.Errorf("P4.7: two were found %d times", found)
	}
}

// TestRightLeafOfForgedPath: where the leaf is the entry's, nothing is told, though the path is forged.
func TestRightLeafOfForgedPath(t *testing.T) {
	const w = 1
	taken := 0
	for _, n := range []int{3, 5, 8} {
		d := entriesOf(n)
		root := merkle.Root(w, d)
		for i := 0; i < n; i += 1 + n/4 {
			leaf := merkle.Leaf(w, d[i])
			right, _ := merkle.Path(w, d, i)
			if len(right) < 2 {
				continue
			}
			for x := range 1 << 16 {
				path := slices.Clone(right)
				path[0], path[1] = []byte{byte(x)}, []byte{byte(x >> 8)}
				if same(path, right) || !merkle.CheckPath(w, leaf, i, n, path, root) {
					continue
				}
				taken++
				if a, b, ok := merkle.CollidePath(w, d, i, leaf, path); ok || len(a) != 0 || len(b) != 0 {
					t.Fatalf("P4.7: of a leaf that is the entry's: %x, %x, %v", a, b, ok)
				}
			}
		}
	}
	if taken == 0 {
		t.Errorf("P4.3: no forged path is taken")
	}
}

func TestNoTwoOfPathsNotTaken(t *testing.T) {
	const w = 2
	for n := range 9 {
		d := entriesOf(n)
		for _, i := range append([]int{0, n - 1, n, n + 1}, extremes...) {
			for count := range 6 {
				path := randomHashes(rand.New(rand.NewSource(int64(count))), w, count)
				lookPath(t, w, d, i, []byte{1, 2}, path)
				lookPath(t, w, d, i, []byte{1, 2, 3}, path)
				lookPath(t, w, d, i, nil, path)
				for _, v := range badWidths {
					if a, b, ok := merkle.CollidePath(v, d, i, []byte{1, 2}, path); ok || len(a) != 0 || len(b) != 0 {
						t.Errorf("P4.7: CollidePath with the width %d: %x, %x, %v", v, a, b, ok)
					}
				}
			}
		}
		for i := range n {
			path, _ := merkle.Path(w, d, i)
			if at := lookPath(t, w, d, i, merkle.Leaf(w, d[i]), path); at >= 0 {
				t.Errorf("P4.7: two of the path that Path tells")
			}
			for _, p := range twisted(path, w) {
				lookPath(t, w, d, i, merkle.Leaf(w, d[i]), p)
			}
			for _, leaf := range twistedHash(merkle.Leaf(w, d[i])) {
				lookPath(t, w, d, i, leaf, path)
			}
		}
	}
}

// forge puts a byte made up for some of a proof's hashes, and tells the old root to which that leads: of SUB that is whole at its end one made up.
func forge(r *rand.Rand, w, m, n int, right [][]byte) (old []byte, proof [][]byte) {
	proof = copied(right)
	upTo := 1 + r.Intn(len(proof))
	for j := range upTo {
		if r.Intn(2) == 0 {
			proof[j] = randomHash(r, w)
		}
	}
	old, _, _ = proofTopsWord(w, m, n, randomHash(r, w), proof)
	return old, proof
}

func TestForgedProofs(t *testing.T) {
	const w = 1
	r, found, deep, rightOld := rand.New(rand.NewSource(5)), 0, 0, 0
	for n := 2; n < 12; n++ {
		d := entriesOf(n)
		root := merkle.Root(w, d)
		for m := 1; m < n; m++ {
			right, _ := merkle.Proof(w, d, m)
			of := 0
			for range 4000 {
				old, proof := forge(r, w, m, n, right)
				if !merkle.CheckProof(w, m, n, old, root, proof) {
					continue
				}
				at := lookProof(t, w, d, m, old, proof)
				switch {
				case at > 0:
					deep++
					of++
				case at == 0:
					of++
				case !same(proof, right):
					rightOld++
				}
			}
			if of == 0 {
				t.Errorf("P4.7: no two were found from %d to %d", m, n)
			}
			found += of
		}
	}
	if found < 500 || deep < 50 || rightOld < 10 {
		t.Errorf("P4.7: two were found %d times, %d of them below the root; %d forged proofs have the right old root", found, deep, rightOld)
	}
}

func TestNoTwoOfProofsNotTaken(t *testing.T) {
	const w = 2
	for n := range 9 {
		d := entriesOf(n)
		for _, m := range append([]int{0, 1, n - 1, n, n + 1}, extremes...) {
			for count := range 6 {
				proof := randomHashes(rand.New(rand.NewSource(int64(count))), w, count)
				lookProof(t, w, d, m, []byte{1, 2}, proof)
				lookProof(t, w, d, m, []byte{1, 2, 3}, proof)
				lookProof(t, w, d, m, nil, proof)
				for _, v := range badWidths {
					if a, b, ok := merkle.CollideProof(v, d, m, []byte{1, 2}, proof); ok || len(a) != 0 || len(b) != 0 {
						t.Errorf("P4.7: CollideProof with the width %d: %x, %x, %v", v, a, b, ok)
					}
				}
			}
		}
		for m := range n + 1 {
			proof, _ := merkle.Proof(w, d, m)
			if at := lookProof(t, w, d, m, merkle.Root(w, d[:m]), proof); at >= 0 {
				t.Errorf("P4.7: two of the proof that Proof tells")
			}
			for _, p := range twisted(proof, w) {
				lookProof(t, w, d, m, merkle.Root(w, d[:m]), p)
			}
			for _, old := range twistedHash(merkle.Root(w, d[:m])) {
				lookProof(t, w, d, m, old, proof)
			}
		}
	}
}

// TestEmptyHashesCollideNowhere: with the width 0 all that is asked could be alike.
func TestEmptyHashesCollideNowhere(t *testing.T) {
	for n := range 4 {
		d := entriesOf(n)
		for i := range 4 {
			for count := range 4 {
				hashes := make([][]byte, count)
				if a, b, ok := merkle.CollidePath(0, d, i, nil, hashes); ok || len(a) != 0 || len(b) != 0 {
					t.Errorf("P4.7: CollidePath with the width 0: %x, %x", a, b)
				}
				if a, b, ok := merkle.CollideProof(0, d, i, nil, hashes); ok || len(a) != 0 || len(b) != 0 {
					t.Errorf("P4.7: CollideProof with the width 0: %x, %x", a, b)
				}
			}
		}
	}
}
