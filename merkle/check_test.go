package merkle_test

import (
	"bytes"
	"math"
	"math/rand"
	"testing"
	"time"

	"almoner/merkle"
)

// twisted tells a list of hashes with one thing wrong: a hash more at each end, one less, one of another length, turned bytes, hashes changed about.
func twisted(hashes [][]byte, w int) map[string][][]byte {
	more := bytes.Repeat([]byte{9}, w)
	all := map[string][][]byte{
		"one more behind":  append(copied(hashes), more),
		"one more ahead":   append([][]byte{more}, copied(hashes)...),
		"two more":         append(copied(hashes), more, more),
		"an empty one":     append(copied(hashes), nil),
		"the last doubled": append(copied(hashes), copied(hashes[max(len(hashes)-1, 0):])...),
	}
	if len(hashes) == 0 {
		delete(all, "the last doubled")
		return all
	}
	all["one less behind"] = copied(hashes)[:len(hashes)-1]
	all["one less ahead"] = copied(hashes)[1:]
	all["none"] = nil
	for _, at := range []int{0, len(hashes) / 2, len(hashes) - 1} {
		place := string(rune('0' + at%10))
		long, short, first, last, empty := copied(hashes), copied(hashes), copied(hashes), copied(hashes), copied(hashes)
		long[at] = append(long[at], 0)
		short[at] = short[at][:w-1]
		first[at][0] ^= 0x80
		last[at][w-1] ^= 1
		empty[at] = nil
		all["a byte more in "+place], all["a byte less in "+place], all["empty "+place] = long, short, empty
		all["another first byte in "+place], all["another last byte in "+place] = first, last
	}
	if len(hashes) > 1 && !bytes.Equal(hashes[0], hashes[1]) {
		about := copied(hashes)
		about[0], about[1] = about[1], about[0]
		all["changed about"] = about
	}
	return all
}

// twistedHash tells a hash with one thing wrong.
func twistedHash(h []byte) map[string][]byte {
	first, last := bytes.Clone(h), bytes.Clone(h)
	first[0] ^= 1
	last[len(h)-1] ^= 0x80
	return map[string][]byte{"another first byte": first, "another last byte": last, "a byte more": append(bytes.Clone(h), 0),
		"a byte less": h[:len(h)-1], "empty": nil, "twice": append(bytes.Clone(h), h...)}
}

func TestExamplesOfCheckPath(t *testing.T) {
	l := merkle.Leaf(32, nil)
	if !merkle.CheckPath(32, l, 0, 1, nil, l) {
		t.Errorf("P4.3: one entry, its leaf the root, is not taken")
	}
	if merkle.CheckPath(32, l, 0, 0, nil, l) || merkle.CheckPath(32, l, 0, 1, [][]byte{l}, l) {
		t.Errorf("P4.3: of no entries, or with one hash, it is taken")
	}
}

func TestPathsAreTaken(t *testing.T) {
	for n := 1; n < 36; n++ {
		d := entriesOf(n)
		for _, w := range []int{1, 2, 32} {
			for i := range n {
				path, _ := merkle.Path(w, d, i)
				if !merkle.CheckPath(w, merkle.Leaf(w, d[i]), i, n, path, merkle.Root(w, d)) {
					t.Errorf("P4.8: the path of %d of %d, width %d, is not taken", i, n, w)
				}
			}
		}
	}
}

func TestTwistedPathsAreNot(t *testing.T) {
	const w = 32
	for n := 1; n < 20; n++ {
		d := entriesOf(n)
		root := merkle.Root(w, d)
		for i := range n {
			leaf := merkle.Leaf(w, d[i])
			path, _ := merkle.Path(w, d, i)
			for what, p := range twisted(path, w) {
				if merkle.CheckPath(w, leaf, i, n, p, root) {
					t.Errorf("P4.3: the path of %d of %d with %s is taken", i, n, what)
				}
			}
			for what, x := range twistedHash(leaf) {
				if merkle.CheckPath(w, x, i, n, path, root) {
					t.Errorf("P4.3: the path of %d of %d is taken for a leaf with %s", i, n, what)
				}
			}
			for what, x := range twistedHash(root) {
				if merkle.CheckPath(w, leaf, i, n, path, x) {
					t.Errorf("P4.3: the path of %d of %d is taken for a root with %s", i, n, what)
				}
			}
			for _, v := range append([]int{1, 31}, badWidths...) {
				if merkle.CheckPath(v, leaf, i, n, path, root) {
					t.Errorf("P4.3: the path of %d of %d is taken with the width %d", i, n, v)
				}
			}
		}
	}
}

// TestPathsElsewhere hands each path to each other place and length.
func TestPathsElsewhere(t *testing.T) {
	const w = 2
	for n := 1; n < 14; n++ {
		d := entriesOf(n)
		root := merkle.Root(w, d)
		for i := range n {
			leaf := merkle.Leaf(w, d[i])
			path, _ := merkle.Path(w, d, i)
			for _, m := range append([]int{0, 1, 2, 3, 4, 5, 6, 7, 8, 9, 10, 11, 12, 13, 14, 16, 17, 64}, extremes...) {
				for _, j := range append([]int{0, 1, 2, 3, 4, 5, 6, 7, 8, 9, 10, 11, 12, 13, 14, 16, 17, 64}, extremes...) {
					want := checkPathWord(w, leaf, j, m, path, root)
					if got := merkle.CheckPath(w, leaf, j, m, path, root); got != want {
						t.Errorf("P4.3: the path of %d of %d as that of %d of %d: %v", i, n, j, m, got)
					}
				}
			}
		}
	}
}

// TestWidthOfEmptyHashes: with the width 0 all hashes could be empty, and alike.
func TestWidthOfEmptyHashes(t *testing.T) {
	for _, w := range []int{0, -1} {
		if merkle.CheckPath(w, nil, 0, 1, nil, nil) || merkle.CheckPath(w, nil, 0, 2, [][]byte{nil}, nil) {
			t.Errorf("P4.3: empty hashes are taken with the width %d", w)
		}
		if merkle.CheckProof(w, 0, 0, nil, nil, nil) || merkle.CheckProof(w, 0, 1, nil, nil, nil) || merkle.CheckProof(w, 1, 1, nil, nil, nil) || merkle.CheckProof(w, 1, 2, nil, nil, [][]byte{nil}) {
			t.Errorf("P4.4: empty hashes are taken with the width %d", w)
		}
		if merkle.CheckMany(w, nil, nil, 0, [][]byte{nil}, nil) || merkle.CheckMany(w, [][]byte{nil}, []int{0}, 1, nil, nil) || merkle.CheckMany(w, nil, nil, 3, nil, nil) {
			t.Errorf("P4.5: empty hashes are taken with the width %d", w)
		}
	}
	wide := make([]byte, 33)
	for _, w := range []int{33, 34} {
		h := wide[:min(w, 33)]
		if merkle.CheckPath(w, h, 0, 1, nil, h) || merkle.CheckProof(w, 1, 1, h, h, nil) || merkle.CheckMany(w, [][]byte{h}, []int{0}, 1, nil, h) {
			t.Errorf("P4.3 to P4.5: hashes of %d bytes are taken", w)
		}
	}
}

// shifted tells two hashes of which the second one's first byte, or the first one's last one, stands in the other: joined, they are the same bytes.
func shifted(left, right []byte) [][2][]byte {
	joined, w := append(bytes.Clone(left), right...), len(left)
	return [][2][]byte{{joined[:w-1], joined[w-1:]}, {joined[:w+1], joined[w+1:]}, {joined, nil}, {nil, joined}}
}

// TestShiftedHashes: hashes of other lengths are refused, though one would come to the root with them.
func TestShiftedHashes(t *testing.T) {
	for _, w := range []int{1, 2, 32} {
		d := entriesOf(4)
		l, r := merkle.Leaf(w, d[2]), merkle.Leaf(w, d[3])
		two, four := merkle.Root(w, d[2:]), merkle.Root(w, d)
		left := merkle.Root(w, d[:2])
		for _, s := range shifted(l, r) {
			if !bytes.Equal(merkle.Node(w, s[0], s[1]), two) {
				t.Fatalf("P4.1: Node of other lengths")
			}
			if merkle.CheckPath(w, s[0], 0, 2, [][]byte{s[1]}, two) || merkle.CheckPath(w, s[1], 1, 2, [][]byte{s[0]}, two) || merkle.CheckPath(w, s[0], 2, 4, [][]byte{s[1], left}, four) {
				t.Errorf("P4.3: hashes of %d and %d bytes are taken, width %d", len(s[0]), len(s[1]), w)
			}
			if merkle.CheckProof(w, 1, 2, s[0], two, [][]byte{s[1]}) {
				t.Errorf("P4.4: hashes of %d and %d bytes are taken, width %d", len(s[0]), len(s[1]), w)
			}
			if merkle.CheckMany(w, [][]byte{s[0], s[1]}, []int{0, 1}, 2, nil, two) || merkle.CheckMany(w, [][]byte{s[0]}, []int{0}, 2, [][]byte{s[1]}, two) || merkle.CheckMany(w, [][]byte{s[1]}, []int{1}, 2, [][]byte{s[0]}, two) {
				t.Errorf("P4.5: hashes of %d and %d bytes are taken, width %d", len(s[0]), len(s[1]), w)
			}
			if merkle.CheckMany(w, [][]byte{merkle.Leaf(w, d[0]), merkle.Leaf(w, d[1])}, []int{0, 1}, 4, [][]byte{s[0], s[1]}, four) {
				t.Errorf("P4.5: two hashes for one are taken, width %d", w)
			}
		}
		for _, s := range shifted(left, two) {
			if merkle.CheckProof(w, 2, 4, s[0], four, [][]byte{s[1]}) || merkle.CheckProof(w, 3, 4, merkle.Root(w, d[:3]), four, [][]byte{l, r, s[0]}) {
				t.Errorf("P4.4: hashes of %d and %d bytes are taken, width %d", len(s[0]), len(s[1]), w)
			}
		}
		long := append(bytes.Clone(l), 1)
		if merkle.CheckPath(w, long, 0, 1, nil, long) || merkle.CheckProof(w, 5, 5, long, long, nil) || merkle.CheckMany(w, [][]byte{long}, []int{0}, 1, nil, long) || merkle.CheckMany(w, nil, nil, 5, [][]byte{long}, long) {
			t.Errorf("P4.3 to P4.5: a root of %d bytes is taken, width %d", len(long), w)
		}
	}
}

// TestMissingHashesAreNotEmptyOnes: a root that would come out if a hash that is missing were an empty one.
func TestMissingHashesAreNotEmptyOnes(t *testing.T) {
	const w = 4
	l, r := hashWord(w), leafWord(w, nil)
	for what, taken := range map[string]bool{
		"the right one of two":     merkle.CheckMany(w, [][]byte{l}, []int{0}, 2, nil, nodeWord(w, l, nil)),
		"the left one of two":      merkle.CheckMany(w, [][]byte{l}, []int{1}, 2, nil, nodeWord(w, nil, l)),
		"both of three":            merkle.CheckMany(w, [][]byte{l}, []int{0}, 3, nil, nodeWord(w, nodeWord(w, l, nil), nil)),
		"the last of three":        merkle.CheckMany(w, [][]byte{l, r}, []int{0, 1}, 3, nil, nodeWord(w, nodeWord(w, l, r), nil)),
		"the second of three":      merkle.CheckMany(w, [][]byte{l, r}, []int{0, 2}, 3, nil, nodeWord(w, nodeWord(w, l, nil), r)),
		"the first two as one":     merkle.CheckMany(w, [][]byte{l, r}, []int{2, 3}, 4, nil, nodeWord(w, nil, nodeWord(w, l, r))),
		"one of two that are used": merkle.CheckMany(w, [][]byte{l}, []int{0}, 4, [][]byte{r}, nodeWord(w, nodeWord(w, l, r), nil)),
		"the path's only one":      merkle.CheckPath(w, l, 0, 2, nil, nodeWord(w, l, nil)),
		"the path's other one":     merkle.CheckPath(w, l, 1, 2, nil, nodeWord(w, nil, l)),
		"the proof's only one":     merkle.CheckProof(w, 1, 2, l, nodeWord(w, l, nil), nil),
	} {
		if taken {
			t.Errorf("P4.3 to P4.5: without %s hashes are taken", what)
		}
	}
}

func TestProofsAreTaken(t *testing.T) {
	for n := range 36 {
		d := entriesOf(n)
		for _, w := range []int{1, 2, 32} {
			for m := range n + 1 {
				proof, _ := merkle.Proof(w, d, m)
				if !merkle.CheckProof(w, m, n, merkle.Root(w, d[:m]), merkle.Root(w, d), proof) {
					t.Errorf("P4.8: the proof from %d to %d, width %d, is not taken", m, n, w)
				}
			}
		}
	}
}

func TestTwistedProofsAreNot(t *testing.T) {
	const w = 32
	for n := range 20 {
		d := entriesOf(n)
		root := merkle.Root(w, d)
		for m := range n + 1 {
			old := merkle.Root(w, d[:m])
			proof, _ := merkle.Proof(w, d, m)
			for what, p := range twisted(proof, w) {
				if merkle.CheckProof(w, m, n, old, root, p) {
					t.Errorf("P4.4: the proof from %d to %d with %s is taken", m, n, what)
				}
			}
			for what, x := range twistedHash(old) {
				if merkle.CheckProof(w, m, n, x, root, proof) {
					t.Errorf("P4.4: the proof from %d to %d is taken for an old root with %s", m, n, what)
				}
			}
			for what, x := range twistedHash(root) {
				want := m == 0 && n > 0 && len(x) == w
				if got := merkle.CheckProof(w, m, n, old, x, proof); got != want {
					t.Errorf("P4.4: the proof from %d to %d for a root with %s: %v", m, n, what, got)
				}
			}
			for _, v := range append([]int{1, 31}, badWidths...) {
				if merkle.CheckProof(v, m, n, old, root, proof) {
					t.Errorf("P4.4: the proof from %d to %d is taken with the width %d", m, n, v)
				}
			}
		}
	}
}

// TestProofsElsewhere hands each proof to each other pair of lengths.
func TestProofsElsewhere(t *testing.T) {
	const w = 2
	for n := range 14 {
		d := entriesOf(n)
		root := merkle.Root(w, d)
		for m := range n + 1 {
			old := merkle.Root(w, d[:m])
			proof, _ := merkle.Proof(w, d, m)
			for _, b := range append([]int{0, 1, 2, 3, 4, 5, 6, 7, 8, 9, 10, 11, 12, 13, 14, 16, 17, 64}, extremes...) {
				for _, a := range append([]int{0, 1, 2, 3, 4, 5, 6, 7, 8, 9, 10, 11, 12, 13, 14, 16, 17, 64}, extremes...) {
					want := checkProofWord(w, a, b, old, root, proof)
					if got := merkle.CheckProof(w, a, b, old, root, proof); got != want {
						t.Errorf("P4.4: the proof from %d to %d as that from %d to %d: %v", m, n, a, b, got)
					}
				}
			}
		}
	}
}

func TestProofsFromNothing(t *testing.T) {
	nothing, other := hashWord(32), merkle.Leaf(32, nil)
	for _, c := range []struct {
		n         int
		old, root []byte
		proof     [][]byte
		want      bool
	}{
		{0, nothing, nothing, nil, true},
		{0, nothing, other, nil, false},
		{0, other, nothing, nil, false},
		{0, other, other, nil, false},
		{1, nothing, other, nil, true},
		{1, nothing, nothing, nil, true},
		{1, other, other, nil, false},
		{1, nothing, other, [][]byte{other}, false},
		{5, nothing, other[:31], nil, false},
		{math.MaxInt, nothing, other, nil, true},
		{math.MaxInt, other, other, nil, false},
		{-1, nothing, nothing, nil, false},
		{math.MinInt, nothing, nothing, nil, false},
	} {
		if got := merkle.CheckProof(32, 0, c.n, c.old, c.root, c.proof); got != c.want {
			t.Errorf("P4.4: from 0 to %d, %x, %x, %x: %v", c.n, c.old, c.root, c.proof, got)
		}
	}
}

// leavesAt tells the leaves of the entries at places.
func leavesAt(w int, d [][]byte, places []int) [][]byte {
	var l [][]byte
	for _, p := range places {
		l = append(l, merkle.Leaf(w, d[p]))
	}
	return l
}

func TestManyIsTaken(t *testing.T) {
	for n := range 10 {
		d := entriesOf(n)
		for _, w := range []int{1, 32} {
			for _, places := range subsets(n) {
				hashes, _ := merkle.Many(w, d, places)
				if !merkle.CheckMany(w, leavesAt(w, d, places), places, n, hashes, merkle.Root(w, d)) {
					t.Errorf("P4.8: the hashes for %v of %d, width %d, are not taken", places, n, w)
				}
			}
		}
	}
}

func TestTwistedManyIsNot(t *testing.T) {
	const w = 32
	for n := range 8 {
		d := entriesOf(n)
		root := merkle.Root(w, d)
		for _, places := range subsets(n) {
			leaves := leavesAt(w, d, places)
			hashes, _ := merkle.Many(w, d, places)
			for what, h := range twisted(hashes, w) {
				if merkle.CheckMany(w, leaves, places, n, h, root) {
					t.Errorf("P4.5: the hashes for %v of %d with %s are taken", places, n, what)
				}
			}
			for what, l := range twisted(leaves, w) {
				if merkle.CheckMany(w, l, places, n, hashes, root) {
					t.Errorf("P4.5: for %v of %d leaves with %s are taken", places, n, what)
				}
			}
			for what, x := range twistedHash(root) {
				if merkle.CheckMany(w, leaves, places, n, hashes, x) {
					t.Errorf("P4.5: for %v of %d a root with %s is taken", places, n, what)
				}
			}
			for _, v := range append([]int{1, 31}, badWidths...) {
				if merkle.CheckMany(v, leaves, places, n, hashes, root) {
					t.Errorf("P4.5: the hashes for %v of %d are taken with the width %d", places, n, v)
				}
			}
		}
	}
}

// TestManyElsewhere hands the hashes for places to other places and lengths.
func TestManyElsewhere(t *testing.T) {
	const w = 2
	for n := range 6 {
		d := entriesOf(n)
		root := merkle.Root(w, d)
		for _, places := range subsets(n) {
			leaves := leavesAt(w, d, places)
			hashes, _ := merkle.Many(w, d, places)
			for _, m := range append([]int{0, 1, 2, 3, 4, 5, 6, 7, 8, 9}, extremes...) {
				for _, others := range append(subsets(6), badPlaces(max(0, min(m, 6)))...) {
					want := checkManyWord(w, leaves, others, m, hashes, root)
					if got := merkle.CheckMany(w, leaves, others, m, hashes, root); got != want {
						t.Errorf("P4.5: the hashes for %v of %d as those for %v of %d: %v", places, n, others, m, got)
					}
				}
			}
		}
	}
}

// TestManyOfBadPlaces: even if a leaf stands for each of the places, and they are those of the entries.
func TestManyOfBadPlaces(t *testing.T) {
	const w = 3
	h := hashWord(w)
	for n := range 9 {
		for _, places := range badPlaces(n) {
			leaves := make([][]byte, len(places))
			for i := range leaves {
				leaves[i] = h
			}
			for count := range 5 {
				hashes := make([][]byte, count)
				for i := range hashes {
					hashes[i] = h
				}
				if merkle.CheckMany(w, leaves, places, n, hashes, h) {
					t.Errorf("P4.5: places %v of %d are taken", places, n)
				}
			}
		}
	}
}

func TestManyOfNoPlaces(t *testing.T) {
	h, other := hashWord(32), merkle.Leaf(32, nil)
	for _, c := range []struct {
		n      int
		hashes [][]byte
		want   bool
	}{
		{0, [][]byte{h}, true}, {0, nil, false}, {0, [][]byte{other}, false}, {0, [][]byte{h, h}, false},
		{1, [][]byte{h}, true}, {7, [][]byte{h}, true}, {7, [][]byte{other}, false}, {math.MaxInt, [][]byte{h}, true}, {math.MaxInt, nil, false},
		{-1, [][]byte{h}, false}, {math.MinInt, [][]byte{h}, false},
	} {
		if got := merkle.CheckMany(32, nil, nil, c.n, c.hashes, h); got != c.want {
			t.Errorf("P4.5: no places of %d, %d hashes: %v", c.n, len(c.hashes), got)
		}
	}
}

// greatLengths are such that a check goes down as deep as an int can make it.
var greatLengths = []int{1 << 31, 1<<31 + 1, 1<<62 - 1, 1 << 62, 1<<62 + 1, 1<<62 + 1<<61 + 5, math.MaxInt - 1, math.MaxInt}

func soon(t *testing.T, begun time.Time) {
	t.Helper()
	if time.Since(begun) > 20*time.Second {
		t.Errorf("P4.9: the checks took %v", time.Since(begun))
	}
}

// TestGreatPaths makes leaf and path up, and goes up to a root by the bits of the place.
func TestGreatPaths(t *testing.T) {
	r, begun := rand.New(rand.NewSource(1)), time.Now()
	const w = 32
	for _, n := range greatLengths {
		for _, i := range []int{0, 1, n / 3, n / 2, n/2 + 1, n - 2, n - 1, 1<<30 + 7} {
			leaf, path := randomHash(r, w), randomHashes(r, w, pathLenWord(i, n))
			root, ok := pathTopWord(w, leaf, i, n, path)
			if !ok || !merkle.CheckPath(w, leaf, i, n, path, root) {
				t.Errorf("P4.3: a path of %d of %d is not taken", i, n)
			}
			for what, p := range twisted(path, w) {
				if merkle.CheckPath(w, leaf, i, n, p, root) {
					t.Errorf("P4.3: a path of %d of %d with %s is taken", i, n, what)
				}
			}
			for what, x := range twistedHash(leaf) {
				if merkle.CheckPath(w, x, i, n, path, root) {
					t.Errorf("P4.3: a path of %d of %d is taken for a leaf with %s", i, n, what)
				}
			}
		}
	}
	soon(t, begun)
}

func TestGreatProofs(t *testing.T) {
	r, begun := rand.New(rand.NewSource(2)), time.Now()
	const w = 32
	for _, n := range greatLengths {
		for _, m := range []int{1, 2, 3, n / 3, n / 2, n/2 + 1, n - 2, n - 1, 1 << 30, 1<<30 + 7, 1<<31 - 1} {
			proof := randomHashes(r, w, proofLenWord(m, n, true))
			old, root, ok := proofTopsWord(w, m, n, randomHash(r, w), proof)
			if !ok || !merkle.CheckProof(w, m, n, old, root, proof) {
				t.Errorf("P4.4: a proof from %d to %d is not taken", m, n)
			}
			for what, p := range twisted(proof, w) {
				if merkle.CheckProof(w, m, n, old, root, p) {
					t.Errorf("P4.4: a proof from %d to %d with %s is taken", m, n, what)
				}
			}
			for what, x := range twistedHash(old) {
				if merkle.CheckProof(w, m, n, x, root, proof) {
					t.Errorf("P4.4: a proof from %d to %d is taken for an old root with %s", m, n, what)
				}
			}
		}
		h, other := randomHash(r, w), randomHash(r, w)
		if !merkle.CheckProof(w, n, n, h, h, nil) || merkle.CheckProof(w, n, n, h, other, nil) || merkle.CheckProof(w, n, n, h, h, [][]byte{h}) {
			t.Errorf("P4.4: from %d to itself", n)
		}
	}
	soon(t, begun)
}

func TestGreatMany(t *testing.T) {
	r, begun := rand.New(rand.NewSource(3)), time.Now()
	const w = 32
	for _, n := range greatLengths {
		for _, places := range [][]int{{0}, {n - 1}, {0, n - 1}, {n / 2, n/2 + 1}, {0, 1, 2, n / 3, n / 2, n - 3, n - 2, n - 1}} {
			leaves, hashes := randomHashes(r, w, len(places)), randomHashes(r, w, manyLenWord(places, n))
			root, _, ok := manyTopWord(w, leaves, places, n, hashes)
			if !ok || !merkle.CheckMany(w, leaves, places, n, hashes, root) {
				t.Errorf("P4.5: the hashes for %v of %d are not taken", places, n)
			}
			for what, h := range twisted(hashes, w) {
				if merkle.CheckMany(w, leaves, places, n, h, root) {
					t.Errorf("P4.5: the hashes for %v of %d with %s are taken", places, n, what)
				}
			}
			for what, l := range twisted(leaves, w) {
				if merkle.CheckMany(w, l, places, n, hashes, root) {
					t.Errorf("P4.5: for %v of %d leaves with %s are taken", places, n, what)
				}
			}
		}
	}
	soon(t, begun)
}

// TestManyPlacesFewHashes: many places far from one another, and no hashes: that there are too few shows at once.
func TestManyPlacesFewHashes(t *testing.T) {
	begun := time.Now()
	const count = 1 << 18
	places, leaves := make([]int, count), make([][]byte, count)
	for i := range places {
		places[i], leaves[i] = i*(math.MaxInt/count), []byte{1}
	}
	for range 200 {
		if merkle.CheckMany(1, leaves, places, math.MaxInt, nil, []byte{1}) {
			t.Fatalf("P4.5: no hashes are taken for %d places", count)
		}
	}
	soon(t, begun)
}
