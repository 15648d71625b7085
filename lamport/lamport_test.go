package lamport_test

import (
	"bytes"
	"math"
	"testing"

	"almoner/api"
	"almoner/lamport"
)

func TestExamples(t *testing.T) {
	for _, c := range [][3]int{{32, 6, 16576}, {1, 0, 16}, {2, 3, 70}, {0, 1, 0}, {32, 7, 0}} {
		if n := lamport.Size(c[0], c[1]); n != c[2] {
			t.Errorf("P5.1: Size(%d, %d): %d, not %d", c[0], c[1], n, c[2])
		}
	}
	for _, c := range [][3]int{{1, 64, 0}, {1, 0, 8}, {33, 0, 0}} {
		if s := lamport.Secret(c[0], nil, c[1], c[2], 0); len(s) != 0 {
			t.Errorf("P5.1: Secret(%d, none, %d, %d, 0): %x", c[0], c[1], c[2], s)
		}
	}
	for _, c := range [][2]int{{1, 7}, {0, 0}} {
		if k, errno := lamport.New(c[0], c[1], nil); k != nil || errno != api.EARG {
			t.Errorf("P5.2: New(%d, %d, none): %v, %v", c[0], c[1], k, errno)
		}
	}
	k := made(t, 2, 3, []byte{5})
	if n := k.Len(); n != 8 {
		t.Errorf("P5.2: Len of the height 3: %d", n)
	}
	if l, errno := k.Leaf(8); len(l) != 0 || errno != api.EARG {
		t.Errorf("P5.2: Leaf(8) of 8: %x, %v", l, errno)
	}
}

func TestExampleOfCheck(t *testing.T) {
	k := made(t, 4, 2, []byte{1, 2, 3})
	abc, s := []byte("abc"), signed(t, made(t, 4, 2, []byte{1, 2, 3}), 3, []byte("abc"))
	if !lamport.Check(4, 2, k.Public(), 3, abc, s) {
		t.Errorf("P5.3: what Sign told is not taken")
	}
	if lamport.Check(4, 2, k.Public(), 2, abc, s) {
		t.Errorf("P5.3: it is taken for the key 2")
	}
	if lamport.Check(4, 2, k.Public(), 3, []byte("abd"), s) {
		t.Errorf("P5.3: it is taken for abd")
	}
	if lamport.Check(4, 2, k.Public(), 3, abc, append(s, 0)) {
		t.Errorf("P5.3: it is taken with a byte more")
	}
}

func TestSize(t *testing.T) {
	for w := 1; w <= 32; w++ {
		for height := range 7 {
			if n, want := lamport.Size(w, height), 2*(8*w)*w+height*w; n != want {
				t.Errorf("P5.1: Size(%d, %d): %d, not %d", w, height, n, want)
			}
		}
	}
	for _, height := range append([]int{0, 3, 6}, badHeights...) {
		for _, w := range badWidths {
			if n := lamport.Size(w, height); n != 0 {
				t.Errorf("P5.1: Size(%d, %d): %d", w, height, n)
			}
		}
	}
	for _, height := range badHeights {
		for _, w := range []int{1, 2, 31, 32} {
			if n := lamport.Size(w, height); n != 0 {
				t.Errorf("P5.1: Size(%d, %d): %d", w, height, n)
			}
		}
	}
}

func TestSecret(t *testing.T) {
	for _, seed := range seeds() {
		for _, w := range []int{1, 2, 31, 32} {
			for _, key := range []int{0, 1, 62, 63} {
				for _, bit := range []int{0, 1, 7, 8*w - 1} {
					for value := range 2 {
						if s, want := lamport.Secret(w, seed, key, bit, value), secretWord(w, seed, key, bit, value); !bytes.Equal(s, want) {
							t.Errorf("P5.1: Secret(%d, %x, %d, %d, %d): %x, not %x", w, seed, key, bit, value, s, want)
						}
					}
				}
			}
		}
	}
}

// TestEverySecret holds all secrets of one seed and one width against the words: no bit of a number is lost.
func TestEverySecret(t *testing.T) {
	seed := []byte("seed")
	for key := range 64 {
		for bit := range 256 {
			for value := range 2 {
				if s, want := lamport.Secret(32, seed, key, bit, value), secretWord(32, seed, key, bit, value); !bytes.Equal(s, want) {
					t.Fatalf("P5.1: Secret(32, seed, %d, %d, %d): %x, not %x", key, bit, value, s, want)
				}
			}
		}
	}
}

func TestNoSecret(t *testing.T) {
	none := func(w int, seed []byte, key, bit, value int) {
		if s := lamport.Secret(w, seed, key, bit, value); len(s) != 0 {
			t.Errorf("P5.1: Secret(%d, %x, %d, %d, %d): %x", w, seed, key, bit, value, s)
		}
	}
	for _, seed := range [][]byte{nil, {1, 2, 3}} {
		for _, w := range badWidths {
			for _, bit := range []int{0, 1, 7, 8, 255, 256, 263, -1, math.MinInt, math.MaxInt} {
				none(w, seed, 0, bit, 0)
				none(w, seed, 63, bit, 1)
			}
		}
		for _, w := range []int{1, 2, 31, 32} {
			for _, key := range beyond(64) {
				none(w, seed, key, 0, 0)
				none(w, seed, key, 8*w-1, 1)
			}
			for _, bit := range beyond(8 * w) {
				none(w, seed, 0, bit, 0)
				none(w, seed, 63, bit, 1)
			}
			for _, value := range beyond(2) {
				none(w, seed, 0, 0, value)
				none(w, seed, 63, 8*w-1, value)
			}
		}
	}
}
