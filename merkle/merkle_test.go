package merkle_test

import (
	"bytes"
	"encoding/hex"
	"math"
	"strings"
	"testing"

	"almoner/api"
	"almoner/merkle"
)

// root tells R(from .. to-1) of the chapter's examples.
func root(from, to int) []byte { return rootWord(32, rfcEntries()[from:to]) }

func TestExamplesOfRoots(t *testing.T) {
	for n, want := range map[int]string{
		0: "e3b0c442 98fc1c14 9afbf4c8 996fb924 27ae41e4 649b934c a495991b 7852b855",
		1: "6e340b9c ffb37a98 9ca544e6 bb780a2c 78901d3f b3373876 8511a306 17afa01d",
		2: "fac54203 e7cc696c f0dfcb42 c92a1d9d baf70ad9 e621f4bd 8d98662f 00e3c125",
		8: "5dc9da79 a70659a9 ad559cb7 01ded9a2 ab9d823a ad2f4960 cfe370ef f4604328",
	} {
		got := hex.EncodeToString(merkle.Root(32, rfcEntries()[:n]))
		if got != strings.ReplaceAll(want, " ", "") {
			t.Errorf("P4.1: Root of the first %d: %s, want %s", n, got, want)
		}
	}
}

func TestExamplesOfPaths(t *testing.T) {
	d := rfcEntries()
	for _, c := range []struct {
		n, i int
		want [][]byte
	}{
		{8, 0, [][]byte{root(1, 2), root(2, 4), root(4, 8)}},
		{3, 2, [][]byte{root(0, 2)}},
		{5, 4, [][]byte{root(0, 4)}},
	} {
		if got, e := merkle.Path(32, d[:c.n], c.i); e != api.OK || !same(got, c.want) {
			t.Errorf("P4.2: Path of %d of %d: %x, %d, want %x", c.i, c.n, got, e, c.want)
		}
	}
	if got, e := merkle.Path(32, d, 8); e != api.EARG || len(got) != 0 {
		t.Errorf("P4.2: Path of 8 of 8: %x, %d", got, e)
	}
}

func TestExamplesOfProofs(t *testing.T) {
	d := rfcEntries()
	for _, c := range []struct {
		n, m int
		want [][]byte
	}{
		{8, 1, [][]byte{root(1, 2), root(2, 4), root(4, 8)}},
		{8, 6, [][]byte{root(4, 6), root(6, 8), root(0, 4)}},
		{5, 2, [][]byte{root(2, 4), root(4, 5)}},
		{8, 0, nil},
		{8, 8, nil},
	} {
		if got, e := merkle.Proof(32, d[:c.n], c.m); e != api.OK || !same(got, c.want) {
			t.Errorf("P4.2: Proof of %d to %d: %x, %d, want %x", c.m, c.n, got, e, c.want)
		}
	}
}

func TestExamplesOfMany(t *testing.T) {
	d := rfcEntries()
	for _, c := range []struct {
		places []int
		want   [][]byte
	}{
		{[]int{0, 5}, [][]byte{root(1, 2), root(2, 4), root(4, 5), root(6, 8)}},
		{nil, [][]byte{root(0, 8)}},
		{[]int{0, 1, 2, 3, 4, 5, 6, 7}, nil},
	} {
		if got, e := merkle.Many(32, d, c.places); e != api.OK || !same(got, c.want) {
			t.Errorf("P4.2: Many of %v: %x, %d, want %x", c.places, got, e, c.want)
		}
	}
	if got, e := merkle.Many(32, d, []int{1, 1}); e != api.EARG || len(got) != 0 {
		t.Errorf("P4.2: Many of 1 1: %x, %d", got, e)
	}
}

func TestHashesAreTheWords(t *testing.T) {
	long := bytes.Repeat([]byte{7, 0, 255}, 100)
	for w := 1; w <= 32; w++ {
		for n := range 130 {
			if got := merkle.Leaf(w, long[:n]); !bytes.Equal(got, leafWord(w, long[:n])) {
				t.Fatalf("P4.1: Leaf(%d, %d bytes): %x", w, n, got)
			}
			a, b := long[:n], long[n:n+n%40]
			if got := merkle.Node(w, a, b); !bytes.Equal(got, nodeWord(w, a, b)) {
				t.Fatalf("P4.1: Node(%d, %d bytes, %d bytes): %x", w, len(a), len(b), got)
			}
		}
		if got := merkle.Leaf(w, nil); !bytes.Equal(got, leafWord(w, nil)) {
			t.Errorf("P4.1: Leaf(%d, nil): %x", w, got)
		}
		if got := merkle.Node(w, nil, nil); !bytes.Equal(got, nodeWord(w, nil, nil)) {
			t.Errorf("P4.1: Node(%d, nil, nil): %x", w, got)
		}
	}
}

func TestRootsAreTheWords(t *testing.T) {
	for _, w := range []int{1, 2, 31, 32} {
		for n := range 140 {
			d := entriesOf(n)
			if got := merkle.Root(w, d); !bytes.Equal(got, rootWord(w, d)) {
				t.Errorf("P4.1: Root(%d, %d entries): %x", w, n, got)
			}
		}
	}
	for _, n := range []int{255, 256, 257, 1023, 1025, 4096} {
		d := entriesOf(n)
		if got := merkle.Root(32, d); !bytes.Equal(got, rootWord(32, d)) {
			t.Errorf("P4.1: Root(32, %d entries): %x", n, got)
		}
	}
}

func TestWidthsThatMayNotBe(t *testing.T) {
	d := rfcEntries()
	for _, w := range badWidths {
		if len(merkle.Leaf(w, d[3])) != 0 || len(merkle.Node(w, d[3], d[4])) != 0 {
			t.Errorf("P4.1: Leaf or Node of the width %d", w)
		}
		for n := range 4 {
			if got := merkle.Root(w, d[:n]); len(got) != 0 {
				t.Errorf("P4.1: Root(%d, %d entries): %x", w, n, got)
			}
			if got, e := merkle.Path(w, d[:n], 0); e != api.EARG || len(got) != 0 {
				t.Errorf("P4.2: Path(%d, %d entries): %x, %d", w, n, got, e)
			}
			if got, e := merkle.Proof(w, d[:n], n/2); e != api.EARG || len(got) != 0 {
				t.Errorf("P4.2: Proof(%d, %d entries): %x, %d", w, n, got, e)
			}
			if got, e := merkle.Many(w, d[:n], nil); e != api.EARG || len(got) != 0 {
				t.Errorf("P4.2: Many(%d, %d entries): %x, %d", w, n, got, e)
			}
		}
		if got, e := merkle.Many(w, d, []int{0, 3}); e != api.EARG || len(got) != 0 {
			t.Errorf("P4.2: Many(%d, of two places): %x, %d", w, got, e)
		}
	}
}

func TestPathsAtEveryPlace(t *testing.T) {
	for n := range 36 {
		d := entriesOf(n)
		for i := range n {
			for _, w := range []int{1, 32} {
				got, e := merkle.Path(w, d, i)
				if e != api.OK || !same(got, pathWord(w, d, i)) {
					t.Errorf("P4.2: Path(%d, %d entries, %d): %x, %d", w, n, i, got, e)
				}
			}
		}
		for _, i := range append([]int{-1, n, n + 1}, extremes...) {
			if got, e := merkle.Path(32, d, i); e != api.EARG || len(got) != 0 {
				t.Errorf("P4.2: Path(32, %d entries, %d): %x, %d", n, i, got, e)
			}
		}
	}
}

func TestProofsFromEveryLength(t *testing.T) {
	for n := range 36 {
		d := entriesOf(n)
		for m := range n + 1 {
			for _, w := range []int{1, 32} {
				got, e := merkle.Proof(w, d, m)
				if e != api.OK || !same(got, proofWord(w, d, m)) {
					t.Errorf("P4.2: Proof(%d, %d entries, %d): %x, %d", w, n, m, got, e)
				}
			}
		}
		for _, m := range append([]int{-1, n + 1, n + 2}, extremes...) {
			if got, e := merkle.Proof(32, d, m); e != api.EARG || len(got) != 0 {
				t.Errorf("P4.2: Proof(32, %d entries, %d): %x, %d", n, m, got, e)
			}
		}
	}
}

func TestManyOfEachSetOfPlaces(t *testing.T) {
	for n := range 10 {
		d := entriesOf(n)
		for _, places := range subsets(n) {
			got, e := merkle.Many(5, d, places)
			if e != api.OK || !same(got, manyWord(5, d, places)) {
				t.Errorf("P4.2: Many(5, %d entries, %v): %x, %d", n, places, got, e)
			}
		}
	}
	d := entriesOf(100)
	for _, places := range [][]int{{0}, {99}, {0, 99}, {63, 64}, {31, 32, 64, 96}, {95, 96, 97, 98, 99}} {
		if got, e := merkle.Many(32, d, places); e != api.OK || !same(got, manyWord(32, d, places)) {
			t.Errorf("P4.2: Many(32, 100 entries, %v): %x, %d", places, got, e)
		}
	}
}

// badPlaces tells lists that are not rising numbers from 0 to n - 1.
func badPlaces(n int) [][]int {
	return [][]int{{-1}, {n}, {n + 1}, {math.MaxInt}, {math.MinInt}, {-1, 0}, {0, n}, {0, 0}, {n - 1, n - 1}, {1, 0}, {n - 1, 0},
		{0, 1, 1}, {0, 2, 1}, {1, 2, 0}, {0, n, 1}, {0, 1, -1}, {0, math.MaxInt}, {math.MaxInt, 0}, {math.MaxInt, math.MinInt}, {n - 1, n}}
}

func TestManyOfPlacesThatMayNotBe(t *testing.T) {
	for n := range 9 {
		d := entriesOf(n)
		for _, places := range badPlaces(n) {
			if got, e := merkle.Many(32, d, places); e != api.EARG || len(got) != 0 {
				t.Errorf("P4.2: Many(32, %d entries, %v): %x, %d", n, places, got, e)
			}
		}
	}
}

// TestOnePlaceIsItsPath: the hashes for one place are those of its path, in another order.
func TestOnePlaceIsItsPath(t *testing.T) {
	for n := 1; n < 20; n++ {
		d := entriesOf(n)
		for i := range n {
			path, _ := merkle.Path(32, d, i)
			many, _ := merkle.Many(32, d, []int{i})
			left := map[string]int{}
			for _, h := range path {
				left[string(h)]++
			}
			for _, h := range many {
				left[string(h)]--
			}
			for _, count := range left {
				if count != 0 {
					t.Errorf("P4.8: of %d of %d: path %x, many %x", i, n, path, many)
				}
			}
			if len(path) != pathLenWord(i, n) {
				t.Errorf("P4.2: the path of %d of %d has %d hashes", i, n, len(path))
			}
		}
	}
}
