package sha

import (
	"math/big"
	"testing"
)

// firstPrimes tells the first n of them.
func firstPrimes(n int) []int64 {
	var primes []int64
	for x := int64(2); len(primes) < n; x++ {
		if big.NewInt(x).ProbablyPrime(10) {
			primes = append(primes, x)
		}
	}
	return primes
}

// rootBits tells the first 32 bits behind the point of the n-th root of x: of the greatest y with y^n <= x 2^(32 n), the low word.
func rootBits(x, n int64) uint32 {
	most := new(big.Int).Lsh(big.NewInt(x), uint(32*n))
	y := new(big.Int)
	for bit := 39; bit >= 0; bit-- {
		y.SetBit(y, bit, 1)
		if new(big.Int).Exp(y, big.NewInt(n), nil).Cmp(most) > 0 {
			y.SetBit(y, bit, 0)
		}
	}
	return uint32(y.Uint64())
}

// Words: K and the start are what the roots of the primes say, each word of them.
func TestTablesAreRoots(t *testing.T) {
	primes := firstPrimes(64)
	for i, want := range k {
		if got := rootBits(primes[i], 3); got != want {
			t.Errorf("K(%d) is %08x, the root says %08x", i, want, got)
		}
	}
	for i, want := range start {
		if got := rootBits(primes[i], 2); got != want {
			t.Errorf("word %d of the start is %08x, the root says %08x", i, want, got)
		}
	}
}

// The example's words.
func TestTablesEnds(t *testing.T) {
	if len(k) != 64 || k[0] != 0x428a2f98 || k[63] != 0xc67178f2 {
		t.Errorf("K: %d words, %08x to %08x", len(k), k[0], k[63])
	}
	if len(start) != 8 || start[0] != 0x6a09e667 || start[7] != 0x5be0cd19 {
		t.Errorf("the start: %d words, %08x to %08x", len(start), start[0], start[7])
	}
}

// Words, a block: its 16 words with the highest byte first, and the first that is made of them.
func TestSchedule(t *testing.T) {
	var b block
	for i := range b {
		b[i] = byte(i)
	}
	w := schedule(b)
	if w[0] != 0x00010203 || w[1] != 0x04050607 || w[15] != 0x3c3d3e3f {
		t.Errorf("the first words: %08x %08x .. %08x", w[0], w[1], w[15])
	}
	// w14 = 38393a3b, w9 = 24252627, w1 = 04050607, w0 = 00010203
	turned := func(x uint32, n uint) uint32 { return x>>n | x<<(32-n) }
	var late, early uint32 = 0x38393a3b, 0x04050607
	want := (turned(late, 17) ^ turned(late, 19) ^ late>>10) + 0x24252627 + (turned(early, 7) ^ turned(early, 18) ^ early>>3) + 0x00010203
	if w[16] != want {
		t.Errorf("w16 is %08x, want %08x", w[16], want)
	}
}

// Words, the padded bytes: all eight bytes of the number of bits, modulo 2^64, for lengths that no test can lay.
func TestGreatLengths(t *testing.T) {
	for _, c := range []struct {
		taken uint64
		bits  [8]byte
	}{
		{1<<29 + 3, [8]byte{0, 0, 0, 1, 0, 0, 0, 24}},
		{0x0102030405060740, [8]byte{8, 16, 24, 32, 40, 48, 58, 0}},
		{1<<61 + 1<<32 + 1, [8]byte{0, 0, 0, 8, 0, 0, 0, 8}},
	} {
		h := nothing()
		h.taken = c.taken
		var last block
		last[c.taken%64] = 128
		copy(last[56:], c.bits[:])
		if got, want := finish(h), fold(start, last); got != want {
			t.Errorf("of %d bytes: %08x, want %08x", c.taken, got, want)
		}
	}
}

// A Hash that is reset, or whose block is whole, keeps none of the bytes that it has taken.
func TestNothingIsKept(t *testing.T) {
	h := New()
	for i := range 64 {
		h.Write([]byte{byte(i + 1)})
	}
	if h.rest != (block{}) {
		t.Errorf("behind a whole block: %v", h.rest)
	}
	h.Write([]byte("a secret"))
	h.Reset()
	if *h != *New() {
		t.Errorf("a Hash that was reset is not a new one: %v", *h)
	}
}
