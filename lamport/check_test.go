package lamport_test

import (
	"bytes"
	"encoding/binary"
	"math"
	"math/rand"
	"testing"

	"almoner/lamport"
)

// turned tells a copy of b with one bit of the byte at a place turned.
func turned(b []byte, at int, bit byte) []byte {
	other := bytes.Clone(b)
	other[at] ^= bit
	return other
}

// TestCheckTurnedBytes turns each byte of signatures: in secrets, in locks, in the path.
func TestCheckTurnedBytes(t *testing.T) {
	const w = 4
	for _, height := range []int{0, 1, 3} {
		k := made(t, w, height, []byte{1, 2, 3})
		message, public := []byte("abc"), k.Public()
		for key := range k.Len() {
			s := signed(t, k, key, message)
			for at := range s {
				for _, bit := range []byte{1, 128} {
					if lamport.Check(w, height, public, key, message, turned(s, at, bit)) {
						t.Errorf("P5.3: height %d: the signature by %d is taken with the byte %d turned", height, key, at)
					}
				}
			}
		}
	}
}

// TestCheckGreatTurned turns a byte of each kind where the width is the greatest.
func TestCheckGreatTurned(t *testing.T) {
	const w, height, key = 32, 2, 1
	k := made(t, w, height, []byte("seed"))
	message := []byte("a head")
	s, public := signed(t, k, key, message), k.Public()
	if !lamport.Check(w, height, public, key, message, s) {
		t.Fatalf("P5.4: what Sign told is not taken")
	}
	for what, at := range map[string]int{
		"the first secret": 0, "the first lock": w, "the first lock's last byte": 2*w - 1, "the last secret": 16*w*w - 2*w,
		"the last lock": 16*w*w - 1, "the path's first hash": 16 * w * w, "the path's last byte": len(s) - 1,
	} {
		if lamport.Check(w, height, public, key, message, turned(s, at, 16)) {
			t.Errorf("P5.3: it is taken with a byte turned in %s", what)
		}
	}
}

// TestCheckOthers hands Check what Sign told with one thing changed.
func TestCheckOthers(t *testing.T) {
	const w = 4
	for height := range 4 {
		k := made(t, w, height, []byte{1, 2, 3})
		message, public := []byte("abc"), k.Public()
		for key := range k.Len() {
			s := signed(t, k, key, message)
			refused := func(what string, w, height int, public []byte, key int, message, s []byte) {
				if lamport.Check(w, height, public, key, message, s) {
					t.Errorf("P5.3: height %d, key %d: taken with %s", height, key, what)
				}
			}
			for other := range 64 {
				if other != key {
					refused("another key", w, height, public, other, message, s)
				}
			}
			for _, other := range beyond(k.Len()) {
				refused("a key that is none", w, height, public, other, message, s)
			}
			for _, other := range [][]byte{nil, []byte("abd"), []byte("ab"), []byte("abc\x00"), []byte("Abc")} {
				refused("another message", w, height, public, key, other, s)
			}
			for at := range public {
				refused("another public hash", w, height, turned(public, at, 1), key, message, s)
			}
			for _, other := range [][]byte{nil, {}, public[:w-1], public[1:], append(bytes.Clone(public), 0), append(bytes.Clone(public), public...)} {
				refused("a public hash of another length", w, height, other, key, message, s)
			}
			for other := range 7 {
				if other != height {
					refused("another height", w, other, public, key, message, s)
				}
			}
			for other := 1; other <= 32; other++ {
				if other != w {
					refused("another width", other, height, public, key, message, s)
					refused("another width", other, height, bytes.Repeat(public, 8)[:other], key, message, s)
				}
			}
			for _, other := range [][]byte{nil, {}, s[:len(s)-1], s[1:], append(bytes.Clone(s), 0), append([]byte{0}, s...), s[:w], append(bytes.Clone(s), s...),
				append(bytes.Clone(s), s[:w]...), s[:len(s)-w], s[w:]} {
				refused("a signature of another length", w, height, public, key, message, other)
			}
		}
	}
}

// TestCheckMayNotBe hands Check widths and heights that may not be, with a public hash and a signature of the lengths that would go with them.
func TestCheckMayNotBe(t *testing.T) {
	refused := func(w, height int, public []byte, key int, s []byte) {
		if lamport.Check(w, height, public, key, []byte("abc"), s) {
			t.Errorf("P5.3: Check(%d, %d) with %d and %d bytes is true", w, height, len(public), len(s))
		}
	}
	k := made(t, 4, 2, nil)
	right := signed(t, k, 0, []byte("abc"))
	for _, w := range badWidths {
		for _, height := range append([]int{0, 1, 2, 6}, badHeights...) {
			for _, key := range []int{0, 1, -1, math.MinInt, math.MaxInt} {
				refused(w, height, k.Public(), key, right)
				refused(w, height, nil, key, nil)
				if w >= -1 && w < 40 && height >= 0 && height < 9 {
					refused(w, height, make([]byte, max(w, 0)), key, make([]byte, 16*w*w+height*w))
				}
			}
		}
	}
	for _, height := range badHeights {
		for _, key := range []int{0, 1, 127, -1, math.MinInt, math.MaxInt} {
			refused(4, height, k.Public(), key, right)
			refused(4, height, k.Public(), key, nil)
			if height > -16 && height < 99 {
				refused(1, height, []byte{0}, key, make([]byte, 16+height))
			}
		}
	}
}

// TestNoHeightOfSeven: a signature that would lead up a tree of 128 keys is refused, though its path would fit.
func TestNoHeightOfSeven(t *testing.T) {
	const w = 4
	k := made(t, w, 6, nil)
	aside := bytes.Repeat([]byte{7}, w)
	s := append(signed(t, k, 5, []byte("abc")), aside...)
	above := nodeWord(w, k.Public(), aside)
	if lamport.Check(w, 7, above, 5, []byte("abc"), s) {
		t.Errorf("P5.3: a signature of the height 7 is taken")
	}
	if !lamport.Check(w, 6, k.Public(), 5, []byte("abc"), s[:len(s)-w]) {
		t.Errorf("P5.4: that of the height 6 is not taken")
	}
}

// sameHash tells messages other than one that have its hash of the width w.
func sameHash(w int, like []byte, many int) [][]byte {
	var all [][]byte
	want := hashWord(w, like)
	for i := uint32(0); len(all) < many; i++ {
		if message := binary.BigEndian.AppendUint32(nil, i); bytes.Equal(hashWord(w, message), want) && !bytes.Equal(message, like) {
			all = append(all, message)
		}
	}
	return all
}

// TestMessagesOfOneHash: with short hashes, unlike messages have one hash, and so one signature.
func TestMessagesOfOneHash(t *testing.T) {
	for w := 1; w <= 2; w++ {
		for _, height := range []int{0, 2} {
			k := made(t, w, height, []byte{9})
			for key := range k.Len() {
				for _, message := range messages() {
					s := signed(t, k, key, message)
					for _, other := range sameHash(w, message, 3) {
						if !lamport.Check(w, height, k.Public(), key, other, s) {
							t.Errorf("P5.4: the signature of %x is not taken for %x of the same hash", message, other)
						}
						if !bytes.Equal(signed(t, k, key, other), s) {
							t.Errorf("P5.2: %x and %x have one hash and unlike signatures", message, other)
						}
					}
				}
			}
		}
	}
}

// TestOtherSecretsOfOneLock: a secret that is not the key's, but has the lock's hash, is taken: Check knows the hashes alone.
func TestOtherSecretsOfOneLock(t *testing.T) {
	k := made(t, 1, 2, []byte{9})
	s, public, found := signed(t, k, 1, []byte("abc")), k.Public(), 0
	for bit := range 8 {
		for x := range 256 {
			other := bytes.Clone(s)
			other[2*bit] = byte(x)
			if bytes.Equal(other, s) || !bytes.Equal(hashWord(1, other[2*bit:2*bit+1]), hashWord(1, s[2*bit:2*bit+1])) {
				continue
			}
			found++
			if !lamport.Check(1, 2, public, 1, []byte("abc"), other) {
				t.Errorf("P5.3: another secret of the bit %d with the same lock is refused", bit)
			}
		}
	}
	if found == 0 {
		t.Errorf("no other secret was found")
	}
}

// TestAnyBytes holds Check against the words with bytes that nobody signed: with hashes of one byte some of them are taken.
func TestAnyBytes(t *testing.T) {
	r := rand.New(rand.NewSource(5))
	taken := 0
	for range 40000 {
		w, height := 1+r.Intn(2)*r.Intn(2), r.Intn(7)
		public, message := make([]byte, w), make([]byte, r.Intn(5))
		s := make([]byte, lamport.Size(w, height)+max(r.Intn(12)-9, 0)*(r.Intn(3)-1))
		r.Read(public)
		r.Read(message)
		r.Read(s)
		key := r.Intn(70) - 3
		want := checkWord(w, height, public, key, message, s)
		if got := lamport.Check(w, height, public, key, message, s); got != want {
			t.Fatalf("P5.3: Check(%d, %d, %x, %d, %x, %x): %v", w, height, public, key, message, s, got)
		}
		if want {
			taken++
		}
	}
	if taken == 0 {
		t.Errorf("none of these bytes was taken")
	}
}

// TestShortHashesElsewhere hands signatures of one byte a hash to every other key, message and public hash: what the words say holds, be it taken or not.
func TestShortHashesElsewhere(t *testing.T) {
	const w = 1
	for height := range 4 {
		k := made(t, w, height, []byte{4})
		for key := range k.Len() {
			s := signed(t, k, key, []byte("abc"))
			for other := -1; other <= k.Len(); other++ {
				for x := range 256 {
					for _, message := range messages() {
						public := []byte{byte(x)}
						want := checkWord(w, height, public, other, message, s)
						if got := lamport.Check(w, height, public, other, message, s); got != want {
							t.Fatalf("P5.3: the signature by %d as that of %x by %d under %x: %v", key, message, other, public, got)
						}
					}
				}
			}
		}
	}
}
