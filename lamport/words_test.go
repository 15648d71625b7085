package lamport_test

// The chapter's words, read plainly, over another SHA-256: what the package is held against.

import (
	"bytes"
	"crypto/sha256"
	"encoding/binary"
	"fmt"
	"math"
	"slices"
	"strings"
	"testing"

	"almoner/api"
	"almoner/lamport"
)

// badWidths and badHeights may not be.
var (
	badWidths  = []int{0, -1, -2, -32, 33, 34, 256, 257, 1 << 32, 1<<32 + 1, math.MinInt, math.MinInt + 1, math.MaxInt - 1, math.MaxInt}
	badHeights = []int{-1, -2, -6, 7, 8, 31, 32, 63, 64, 65, 256, 1 << 32, 1<<32 + 1, math.MinInt, math.MinInt + 1, math.MaxInt - 1, math.MaxInt}
)

// beyond tells numbers that are not from 0 to n - 1; some of them have the same last bytes as one that is.
func beyond(n int) []int {
	return []int{-1, -2, -n, n, n + 1, 1 << 8 * max(n, 1), 1 << 16 * max(n, 1), 1 << 32, 1<<32 + n - 1, math.MinInt, math.MinInt + 1, math.MaxInt - 1, math.MaxInt}
}

func hashWord(w int, parts ...[]byte) []byte {
	all := sha256.Sum256(slices.Concat(parts...))
	return all[:w:w]
}

// bitsWord tells the bits of a message as noughts and ones.
func bitsWord(w int, message []byte) string {
	var s strings.Builder
	for _, b := range hashWord(w, message) {
		fmt.Fprintf(&s, "%08b", b)
	}
	return s.String()
}

func secretWord(w int, seed []byte, key, bit, value int) []byte {
	front := []byte{2}
	front = binary.BigEndian.AppendUint32(front, uint32(key))
	front = binary.BigEndian.AppendUint16(front, uint16(bit))
	return hashWord(w, front, []byte{byte(value)}, seed)
}

func lockWord(w int, seed []byte, key, bit, value int) []byte {
	return hashWord(w, secretWord(w, seed, key, bit, value))
}

func leafWord(w int, seed []byte, key int) []byte {
	var entry []byte
	for j := range 8 * w {
		entry = append(entry, lockWord(w, seed, key, j, 0)...)
		entry = append(entry, lockWord(w, seed, key, j, 1)...)
	}
	return hashWord(w, []byte{0}, entry)
}

func nodeWord(w int, left, right []byte) []byte { return hashWord(w, []byte{1}, left, right) }

// levelsWord tells the leaves of 2^height keys, and above them, pair by pair, the hashes up to the public one.
func levelsWord(w, height int, seed []byte) [][][]byte {
	level := make([][]byte, 1<<height)
	for key := range level {
		level[key] = leafWord(w, seed, key)
	}
	levels := [][][]byte{level}
	for len(level) > 1 {
		var above [][]byte
		for i := 0; i < len(level); i += 2 {
			above = append(above, nodeWord(w, level[i], level[i+1]))
		}
		levels, level = append(levels, above), above
	}
	return levels
}

func publicWord(levels [][][]byte) []byte { return levels[len(levels)-1][0] }

func signWord(w int, seed []byte, levels [][][]byte, key int, message []byte) []byte {
	var s []byte
	for j, c := range bitsWord(w, message) {
		if c == '1' {
			s = append(append(s, secretWord(w, seed, key, j, 1)...), lockWord(w, seed, key, j, 0)...)
		} else {
			s = append(append(s, secretWord(w, seed, key, j, 0)...), lockWord(w, seed, key, j, 1)...)
		}
	}
	for i, level := range levels[:len(levels)-1] {
		s = append(s, level[key>>i^1]...)
	}
	return s
}

// checkWord is P5.3, one thing asked behind the other.
func checkWord(w, height int, public []byte, key int, message, signature []byte) bool {
	if w < 1 || w > 32 || height < 0 || height > 6 {
		return false
	}
	if len(public) != w || key < 0 || key >= 1<<height || len(signature) != 2*8*w*w+height*w {
		return false
	}
	next := func() []byte {
		hash := signature[:w]
		signature = signature[w:]
		return hash
	}
	var entry []byte
	for _, c := range bitsWord(w, message) {
		secret, other := next(), next()
		if c == '1' {
			entry = slices.Concat(entry, other, hashWord(w, secret))
		} else {
			entry = slices.Concat(entry, hashWord(w, secret), other)
		}
	}
	at := hashWord(w, []byte{0}, entry)
	for i := range height {
		if hash := next(); key>>i&1 == 0 {
			at = nodeWord(w, at, hash)
		} else {
			at = nodeWord(w, hash, at)
		}
	}
	return bytes.Equal(at, public)
}

// seeds are some, the empty ones and great ones too; those of 55 to 57 and of 119 to 121 bytes lie where a block of the hash ends.
func seeds() [][]byte {
	all := [][]byte{nil, {}, {0}, {1, 2, 3}, []byte("seed")}
	for _, n := range []int{47, 48, 49, 55, 56, 57, 63, 64, 65, 111, 112, 113, 119, 120, 121, 1000} {
		seed := make([]byte, n)
		for i := range seed {
			seed[i] = byte(i*7 + n)
		}
		all = append(all, seed)
	}
	return all
}

func messages() [][]byte {
	return [][]byte{nil, {}, {0}, []byte("abc"), []byte("abd"), bytes.Repeat([]byte{0xff}, 64), bytes.Repeat([]byte("a head "), 99)}
}

// made tells the keys of a seed; the width and the height may be.
func made(t *testing.T, w, height int, seed []byte) *lamport.Keys {
	t.Helper()
	k, errno := lamport.New(w, height, seed)
	if k == nil || errno != api.OK {
		t.Fatalf("P5.2: New(%d, %d, %x): %v, %v", w, height, seed, k, errno)
	}
	return k
}

// signed tells a signature; there is such a key.
func signed(t *testing.T, k *lamport.Keys, key int, message []byte) []byte {
	t.Helper()
	s, errno := k.Sign(key, message)
	if errno != api.OK {
		t.Fatalf("P5.2: Sign(%d, %x): %v", key, message, errno)
	}
	return s
}
