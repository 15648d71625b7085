package merkle_test

import (
	"bytes"
	"math/bits"
	"testing"

	"almoner/api"
	"almoner/merkle"
)

// treeOf tells a tree to which the entries were added one by one.
func treeOf(w int, d [][]byte) *merkle.Tree {
	t := merkle.New(w)
	for _, e := range d {
		t.Add(e)
	}
	return t
}

func TestExamplesOfPeaks(t *testing.T) {
	if got := treeOf(32, rfcEntries()).Peaks(); !same(got, [][]byte{root(0, 8)}) {
		t.Errorf("P4.6: Peaks of 8: %x", got)
	}
	if got := treeOf(32, rfcEntries()[:7]).Peaks(); !same(got, [][]byte{root(0, 4), root(4, 6), root(6, 7)}) {
		t.Errorf("P4.6: Peaks of 7: %x", got)
	}
}

// look asks a tree of d for all that it can tell of the first n, and for what it must refuse.
func look(t *testing.T, tr *merkle.Tree, w int, d [][]byte, n int) {
	t.Helper()
	if got, e := tr.Root(n); e != api.OK || !bytes.Equal(got, rootWord(w, d[:n])) {
		t.Errorf("P4.6: Root(%d) of %d: %x, %d", n, len(d), got, e)
	}
	for i := range n {
		if got, e := tr.Path(i, n); e != api.OK || !same(got, pathWord(w, d[:n], i)) {
			t.Errorf("P4.6: Path(%d, %d) of %d: %x, %d", i, n, len(d), got, e)
		}
	}
	for m := range n + 1 {
		if got, e := tr.Proof(m, n); e != api.OK || !same(got, proofWord(w, d[:n], m)) {
			t.Errorf("P4.6: Proof(%d, %d) of %d: %x, %d", m, n, len(d), got, e)
		}
	}
	for _, i := range append([]int{-1, n, len(d), len(d) + 1}, extremes...) {
		if got, e := tr.Path(i, n); e != api.EARG || len(got) != 0 {
			t.Errorf("P4.6: Path(%d, %d) of %d: %x, %d", i, n, len(d), got, e)
		}
	}
	for _, m := range append([]int{-1, n + 1, len(d) + 1}, extremes...) {
		if got, e := tr.Proof(m, n); e != api.EARG || len(got) != 0 {
			t.Errorf("P4.6: Proof(%d, %d) of %d: %x, %d", m, n, len(d), got, e)
		}
	}
	for _, places := range badPlaces(n) {
		if got, e := tr.Many(places, n); e != api.EARG || len(got) != 0 {
			t.Errorf("P4.6: Many(%v, %d) of %d: %x, %d", places, n, len(d), got, e)
		}
	}
}

// lookMany asks for the hashes for each set of places among the first n.
func lookMany(t *testing.T, tr *merkle.Tree, w int, d [][]byte, n int) {
	t.Helper()
	for _, places := range subsets(n) {
		if got, e := tr.Many(places, n); e != api.OK || !same(got, manyWord(w, d[:n], places)) {
			t.Errorf("P4.6: Many(%v, %d) of %d: %x, %d", places, n, len(d), got, e)
		}
	}
}

// lookBeyond asks for lengths that the tree has not.
func lookBeyond(t *testing.T, tr *merkle.Tree, n int) {
	t.Helper()
	for _, beyond := range append([]int{-1, n + 1, n + 2}, extremes...) {
		if got, e := tr.Root(beyond); e != api.EARG || len(got) != 0 {
			t.Errorf("P4.6: Root(%d) of %d: %x, %d", beyond, n, got, e)
		}
		for _, i := range []int{-1, 0, n - 1, n, beyond - 1, beyond} {
			if got, e := tr.Path(i, beyond); e != api.EARG || len(got) != 0 {
				t.Errorf("P4.6: Path(%d, %d) of %d: %x, %d", i, beyond, n, got, e)
			}
			if got, e := tr.Proof(i, beyond); e != api.EARG || len(got) != 0 {
				t.Errorf("P4.6: Proof(%d, %d) of %d: %x, %d", i, beyond, n, got, e)
			}
			if got, e := tr.Many([]int{i}, beyond); e != api.EARG || len(got) != 0 {
				t.Errorf("P4.6: Many(%d, %d) of %d: %x, %d", i, beyond, n, got, e)
			}
		}
		if got, e := tr.Many(nil, beyond); e != api.EARG || len(got) != 0 {
			t.Errorf("P4.6: Many(none, %d) of %d: %x, %d", beyond, n, got, e)
		}
	}
}

// lookPeaks holds the peaks against the roots of unlike powers of 2, and the root against what is made of the peaks.
func lookPeaks(t *testing.T, tr *merkle.Tree, w int, d [][]byte) {
	t.Helper()
	var want [][]byte
	for rest := d; len(rest) > 0; {
		size := 1 << (bits.Len(uint(len(rest))) - 1)
		want = append(want, rootWord(w, rest[:size]))
		rest = rest[size:]
	}
	peaks := tr.Peaks()
	if !same(peaks, want) {
		t.Errorf("P4.6: Peaks of %d: %x, want %x", len(d), peaks, want)
	}
	if len(peaks) == 0 {
		return
	}
	made := peaks[len(peaks)-1]
	for i := len(peaks) - 2; i >= 0; i-- {
		made = merkle.Node(w, peaks[i], made)
	}
	if got, _ := tr.Root(len(d)); !bytes.Equal(got, made) {
		t.Errorf("P4.8: Root of %d is %x, of its peaks %x is made", len(d), got, made)
	}
}

// TestTreeThatGrows asks for each n at each length.
func TestTreeThatGrows(t *testing.T) {
	for _, w := range []int{1, 20, 32} {
		d := entriesOf(20)
		tr := merkle.New(w)
		for length := range 21 {
			if tr.Len() != length {
				t.Fatalf("P4.6: Len is %d behind %d entries", tr.Len(), length)
			}
			for n := range length + 1 {
				look(t, tr, w, d[:length], n)
			}
			lookBeyond(t, tr, length)
			lookPeaks(t, tr, w, d[:length])
			if length == 20 {
				break
			}
			if place := tr.Add(d[length]); place != length {
				t.Errorf("P4.6: Add tells %d for the entry %d", place, length)
			}
		}
	}
}

func TestManyOfTree(t *testing.T) {
	d := entriesOf(8)
	tr := merkle.New(3)
	for length := range 9 {
		for n := range length + 1 {
			lookMany(t, tr, 3, d[:length], n)
		}
		if length < 8 {
			tr.Add(d[length])
		}
	}
}

func TestLongTree(t *testing.T) {
	d := entriesOf(600)
	tr := treeOf(2, d)
	for _, n := range []int{0, 1, 63, 64, 65, 255, 256, 257, 511, 512, 513, 599, 600} {
		if got, e := tr.Root(n); e != api.OK || !bytes.Equal(got, rootWord(2, d[:n])) {
			t.Errorf("P4.6: Root(%d) of 600: %x, %d", n, got, e)
		}
		for _, i := range []int{0, n / 3, n - 1} {
			if i < 0 || i >= n {
				continue
			}
			if got, e := tr.Path(i, n); e != api.OK || !same(got, pathWord(2, d[:n], i)) {
				t.Errorf("P4.6: Path(%d, %d) of 600: %x, %d", i, n, got, e)
			}
			if got, e := tr.Proof(i, n); e != api.OK || !same(got, proofWord(2, d[:n], i)) {
				t.Errorf("P4.6: Proof(%d, %d) of 600: %x, %d", i, n, got, e)
			}
			if got, e := tr.Many([]int{i}, n); e != api.OK || !same(got, manyWord(2, d[:n], []int{i})) {
				t.Errorf("P4.6: Many(%d, %d) of 600: %x, %d", i, n, got, e)
			}
		}
	}
	lookPeaks(t, tr, 2, d)
}

// TestTreesAreTaken: what a tree tells for the first n is taken by the checks.
func TestTreesAreTaken(t *testing.T) {
	const w = 32
	d := entriesOf(40)
	tr := treeOf(w, d)
	for n := range 41 {
		root, _ := tr.Root(n)
		for i := range n {
			path, _ := tr.Path(i, n)
			proof, _ := tr.Proof(i, n)
			many, _ := tr.Many([]int{i}, n)
			old, _ := tr.Root(i)
			leaf := merkle.Leaf(w, d[i])
			if !merkle.CheckPath(w, leaf, i, n, path, root) || !merkle.CheckProof(w, i, n, old, root, proof) || !merkle.CheckMany(w, [][]byte{leaf}, []int{i}, n, many, root) {
				t.Errorf("P4.8: what the tree tells of %d of %d is not taken", i, n)
			}
		}
	}
}

func TestTreesOfWidthsThatMayNotBe(t *testing.T) {
	for _, w := range badWidths {
		tr := merkle.New(w)
		for length := range 6 {
			if tr.Len() != length {
				t.Errorf("P4.6: Len of the width %d is %d behind %d entries", w, tr.Len(), length)
			}
			if got := tr.Peaks(); len(got) != 0 {
				t.Errorf("P4.6: Peaks of the width %d: %x", w, got)
			}
			for n := -1; n <= length+1; n++ {
				if got, e := tr.Root(n); e != api.EARG || len(got) != 0 {
					t.Errorf("P4.6: Root(%d) of the width %d: %x, %d", n, w, got, e)
				}
				if got, e := tr.Path(0, n); e != api.EARG || len(got) != 0 {
					t.Errorf("P4.6: Path(0, %d) of the width %d: %x, %d", n, w, got, e)
				}
				if got, e := tr.Proof(0, n); e != api.EARG || len(got) != 0 {
					t.Errorf("P4.6: Proof(0, %d) of the width %d: %x, %d", n, w, got, e)
				}
				if got, e := tr.Many(nil, n); e != api.EARG || len(got) != 0 {
					t.Errorf("P4.6: Many(none, %d) of the width %d: %x, %d", n, w, got, e)
				}
			}
			if place := tr.Add([]byte{1}); place != length {
				t.Errorf("P4.6: Add of the width %d tells %d for the entry %d", w, place, length)
			}
		}
	}
}

// TestTwoTrees: two trees have nothing in common, one that was asked goes on as one that was not.
func TestTwoTrees(t *testing.T) {
	d := entriesOf(33)
	a, b, asked := merkle.New(8), merkle.New(9), merkle.New(8)
	for i := range d {
		a.Add(d[i])
		b.Add(d[32-i])
		asked.Root(i)
		asked.Path(i/2, i)
		asked.Proof(i/2, i)
		asked.Many([]int{i / 2}, i)
		asked.Root(i + 9)
		asked.Peaks()
		asked.Add(d[i])
	}
	lookPeaks(t, a, 8, d)
	lookPeaks(t, asked, 8, d)
	if got, _ := b.Root(1); !bytes.Equal(got, leafWord(9, d[32])) {
		t.Errorf("R5: the root of the second tree's first entry: %x", got)
	}
	for n := range 34 {
		look(t, asked, 8, d, n)
	}
}
