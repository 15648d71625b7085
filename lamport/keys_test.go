package lamport_test

import (
	"bytes"
	"testing"

	"almoner/api"
	"almoner/lamport"
)

func TestNewRefuses(t *testing.T) {
	refused := func(w, height int, seed []byte) {
		if k, errno := lamport.New(w, height, seed); k != nil || errno != api.EARG {
			t.Errorf("P5.2: New(%d, %d, %x): %v, %v", w, height, seed, k, errno)
		}
	}
	for _, seed := range [][]byte{nil, {1, 2, 3}} {
		for _, w := range badWidths {
			for _, height := range append([]int{0, 1, 6}, badHeights...) {
				refused(w, height, seed)
			}
		}
		for _, height := range badHeights {
			for _, w := range []int{1, 2, 32} {
				refused(w, height, seed)
			}
		}
	}
}

// TestKeys holds every key of small trees against the words.
func TestKeys(t *testing.T) {
	for _, w := range []int{1, 2, 3, 8} {
		for height := range 4 {
			for _, seed := range [][]byte{nil, {1, 2, 3}} {
				lookKeys(t, w, height, seed)
			}
		}
	}
}

// TestGreatKeys does so with the greatest width and the greatest height, which may be.
func TestGreatKeys(t *testing.T) {
	lookKeys(t, 1, 6, []byte("seed"))
	lookKeys(t, 32, 0, []byte("seed"))
	lookKeys(t, 32, 1, nil)
	k := made(t, 32, 6, []byte("seed"))
	levels := levelsWord(32, 6, []byte("seed"))
	if k.Len() != 64 || !bytes.Equal(k.Public(), publicWord(levels)) {
		t.Errorf("P5.2: width 32, height 6: %d keys, %x", k.Len(), k.Public())
	}
	for _, key := range []int{0, 31, 63} {
		s := signed(t, k, key, []byte("a head"))
		if len(s) != 16576 || !bytes.Equal(s, signWord(32, []byte("seed"), levels, key, []byte("a head"))) {
			t.Errorf("P5.2: width 32, height 6: the signature of the key %d", key)
		}
		if !lamport.Check(32, 6, k.Public(), key, []byte("a head"), s) {
			t.Errorf("P5.4: width 32, height 6: the signature of the key %d is not taken", key)
		}
	}
}

// TestSeeds holds trees of seeds of many lengths against the words.
func TestSeeds(t *testing.T) {
	for _, seed := range seeds() {
		lookKeys(t, 2, 1, seed)
	}
}

func lookKeys(t *testing.T, w, height int, seed []byte) {
	t.Helper()
	k, levels, n := made(t, w, height, seed), levelsWord(w, height, seed), 1<<height
	if k.Len() != n {
		t.Errorf("P5.2: width %d, height %d: %d keys", w, height, k.Len())
	}
	if p := k.Public(); !bytes.Equal(p, publicWord(levels)) {
		t.Errorf("P5.2: width %d, height %d, seed %x: Public: %x, not %x", w, height, seed, p, publicWord(levels))
	}
	for key := range n {
		if l, errno := k.Leaf(key); errno != api.OK || !bytes.Equal(l, levels[0][key]) {
			t.Errorf("P5.2: width %d, height %d, seed %x: Leaf(%d): %x, %v", w, height, seed, key, l, errno)
		}
		for _, message := range messages() {
			s := signed(t, k, key, message)
			if len(s) != lamport.Size(w, height) || !bytes.Equal(s, signWord(w, seed, levels, key, message)) {
				t.Errorf("P5.2: width %d, height %d, seed %x: Sign(%d, %x): %x", w, height, seed, key, message, s)
			}
			if !lamport.Check(w, height, k.Public(), key, message, s) {
				t.Errorf("P5.4: width %d, height %d, seed %x: the signature of %x by %d is not taken", w, height, seed, message, key)
			}
		}
	}
	lookBeyond(t, k)
	if k.Len() != n || !bytes.Equal(k.Public(), publicWord(levels)) {
		t.Errorf("R3: width %d, height %d: a refused call changed the keys", w, height)
	}
}

func lookBeyond(t *testing.T, k *lamport.Keys) {
	t.Helper()
	for _, key := range append(beyond(k.Len()), 64) {
		if l, errno := k.Leaf(key); len(l) != 0 || errno != api.EARG {
			t.Errorf("P5.2: Leaf(%d) of %d: %x, %v", key, k.Len(), l, errno)
		}
		for _, message := range [][]byte{nil, []byte("abc")} {
			if s, errno := k.Sign(key, message); len(s) != 0 || errno != api.EARG {
				t.Errorf("P5.2: Sign(%d) of %d: %x, %v", key, k.Len(), s, errno)
			}
		}
	}
}

// TestTwoTrees: two of one seed sign alike, whatever each has signed ahead; of unlike seeds they do not.
func TestTwoTrees(t *testing.T) {
	const w, height = 4, 2
	one, two := made(t, w, height, []byte("seed")), made(t, w, height, []byte("seed"))
	other := made(t, w, height, []byte("seeD"))
	for key := range 4 {
		signed(t, two, key, []byte("something ahead"))
	}
	if !bytes.Equal(one.Public(), two.Public()) || bytes.Equal(one.Public(), other.Public()) {
		t.Errorf("P5.4: public hashes %x, %x of one seed, %x of another", one.Public(), two.Public(), other.Public())
	}
	for key := range 4 {
		for _, message := range messages() {
			a, b := signed(t, one, key, message), signed(t, two, key, message)
			if !bytes.Equal(a, b) || !bytes.Equal(a, signed(t, one, key, message)) {
				t.Errorf("P5.4: two trees of one seed sign %x by %d as %x and %x", message, key, a, b)
			}
			if c := signed(t, other, key, message); bytes.Equal(a, c) || lamport.Check(w, height, one.Public(), key, message, c) {
				t.Errorf("P5.3: the tree of another seed signs %x by %d alike", message, key)
			}
		}
	}
}

// TestTreesOfOneSeed: trees of one seed and width, but of unlike heights, have the same first keys.
func TestTreesOfOneSeed(t *testing.T) {
	const w = 4
	small, great := made(t, w, 1, nil), made(t, w, 3, nil)
	for key := range small.Len() {
		a, _ := small.Leaf(key)
		b, _ := great.Leaf(key)
		if !bytes.Equal(a, b) {
			t.Errorf("P5.2: Leaf(%d): %x of two keys, %x of eight", key, a, b)
		}
		s, g := signed(t, small, key, []byte("abc")), signed(t, great, key, []byte("abc"))
		if !bytes.Equal(s, g[:len(s)]) {
			t.Errorf("P5.2: the key %d signs otherwise among two than among eight", key)
		}
	}
}
