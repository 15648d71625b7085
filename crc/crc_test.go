package crc_test

import (
	"bytes"
	"hash/crc32"
	"math/rand"
	"testing"

	"almoner/crc"
)

var other = crc32.MakeTable(crc32.Castagnoli)

// some tells n bytes without a pattern, for one n always the same.
func some(n int) []byte {
	b := make([]byte, n)
	rand.New(rand.NewSource(int64(n))).Read(b)
	return b
}

// sums are those that have a pattern, each bit alone among them, and some that have none.
func sums() []uint32 {
	all := []uint32{0, 1, 0xffffffff, 0xfffffffe, 0x7fffffff, 0x82f63b78, 0x527d5351, 12345}
	for i := range 32 {
		all = append(all, 1<<i)
	}
	r := rand.New(rand.NewSource(3))
	for range 30 {
		all = append(all, r.Uint32())
	}
	return all
}

// byRule is P3.1, word for word.
func byRule(i int) uint32 {
	c := uint32(i)
	for range 8 {
		if c%2 == 1 {
			c = c/2 ^ 0x82f63b78
		} else {
			c = c / 2
		}
	}
	return c
}

// All 256 numbers, and those that the chapter names (P3.1).
func TestTable(t *testing.T) {
	got := crc.Table()
	if len(got) != 256 {
		t.Fatalf("%d numbers, want 256", len(got))
	}
	for i, c := range got {
		if c != byRule(i) || c != other[i] {
			t.Errorf("at %d: %#x, want %#x (or %#x)", i, c, byRule(i), other[i])
		}
	}
	for _, c := range []struct {
		place int
		want  uint32
	}{{0, 0}, {1, 0xf26b8303}, {128, 0x82f63b78}, {255, 0xad7d5351}} {
		if got[c.place] != c.want {
			t.Errorf("at %d: %#x, want %#x", c.place, got[c.place], c.want)
		}
	}
}

// What a caller does to the list that Table told is seen nowhere (R4, R5).
func TestTableIsNew(t *testing.T) {
	kept := crc.Table()
	changed := crc.Table()
	whole := changed[:cap(changed)]
	for i := range whole {
		whole[i] = ^whole[i]
	}
	for i, c := range crc.Table() {
		if c != byRule(i) || kept[i] != c {
			t.Fatalf("at %d: %#x and %#x behind the change, want %#x", i, c, kept[i], byRule(i))
		}
	}
	if got := crc.Sum([]byte("123456789")); got != 0xe3069283 {
		t.Errorf("Sum behind the change: %#x", got)
	}
	if got, ok := crc.Combine(crc.Sum([]byte("1234")), crc.Sum([]byte("56789")), 5); got != 0xe3069283 || !ok {
		t.Errorf("Combine behind the change: %#x, %v", got, ok)
	}
}

// The chapter's examples of sums (P3.2).
func TestSumExamples(t *testing.T) {
	for _, c := range []struct {
		b    []byte
		want uint32
	}{{nil, 0}, {[]byte{}, 0}, {[]byte{0}, 0x527d5351}, {[]byte("a"), 0xc1d04330}, {[]byte("123456789"), 0xe3069283}} {
		if got := crc.Sum(c.b); got != c.want {
			t.Errorf("Sum(%q): %#x, want %#x", c.b, got, c.want)
		}
	}
	if got := crc.Update(crc.Sum([]byte("1234")), []byte("56789")); got != 0xe3069283 {
		t.Errorf("Update: %#x", got)
	}
}

// From any sum, over bytes of all lengths up to 600, and over some of many (P3.2).
func TestUpdate(t *testing.T) {
	lengths := []int{1 << 16, 1<<20 + 1}
	for n := range 600 {
		lengths = append(lengths, n)
	}
	for _, n := range lengths {
		b := some(n)
		if got, want := crc.Sum(b), crc32.Checksum(b, other); got != want {
			t.Errorf("Sum of %d bytes: %#x, want %#x", n, got, want)
		}
		sum := uint32(n) * 2654435761
		if got, want := crc.Update(sum, b), crc32.Update(sum, other, b); got != want {
			t.Errorf("Update(%#x) of %d bytes: %#x, want %#x", sum, n, got, want)
		}
	}
	for _, sum := range sums() {
		for x := range 256 {
			b := []byte{byte(x)}
			if got, want := crc.Update(sum, b), crc32.Update(sum, other, b); got != want {
				t.Errorf("Update(%#x, %d): %#x, want %#x", sum, x, got, want)
			}
		}
		if got := crc.Update(sum, nil); got != sum {
			t.Errorf("Update(%#x) of nothing: %#x", sum, got)
		}
		if got := crc.Update(sum, []byte{}); got != sum {
			t.Errorf("Update(%#x) of an empty list: %#x", sum, got)
		}
	}
}

// Bytes are read alone: neither they nor the room behind them is changed, and what stands there does not count (R4).
func TestBytesAreLeft(t *testing.T) {
	b := some(100)
	was := bytes.Clone(b)
	want := crc32.Checksum(b[10:60], other)
	if got := crc.Sum(b[10:60]); got != want {
		t.Errorf("Sum of a piece: %#x, want %#x", got, want)
	}
	if got := crc.Update(7, b[10:60]); got != crc32.Update(7, other, was[10:60]) {
		t.Errorf("Update of a piece: %#x", got)
	}
	if !bytes.Equal(b, was) {
		t.Error("bytes have been changed")
	}
	clear(b)
	if got := crc.Sum(was[10:60]); got != want {
		t.Errorf("Sum of a piece, later: %#x, want %#x", got, want)
	}
}

// Sums go on wherever the bytes are cut (P3.4).
func TestCutAnywhere(t *testing.T) {
	for _, n := range []int{0, 1, 2, 9, 300} {
		b := some(n)
		whole := crc.Sum(b)
		for i := range n + 1 {
			x, y := b[:i], b[i:]
			if got := crc.Update(crc.Sum(x), y); got != whole {
				t.Errorf("%d bytes cut at %d: Update %#x, want %#x", n, i, got, whole)
			}
			if got, ok := crc.Combine(crc.Sum(x), crc.Sum(y), len(y)); got != whole || !ok {
				t.Errorf("%d bytes cut at %d: Combine %#x, %v, want %#x", n, i, got, ok, whole)
			}
		}
	}
}

// The exclusive or of three texts of one length (P3.4).
func TestThreeTexts(t *testing.T) {
	r := rand.New(rand.NewSource(5))
	for n := range 200 {
		var texts [3][]byte
		all := make([]byte, n)
		var want uint32
		for i := range texts {
			texts[i] = make([]byte, n)
			r.Read(texts[i])
			for j, x := range texts[i] {
				all[j] ^= x
			}
			want ^= crc.Sum(texts[i])
		}
		if got := crc.Sum(all); got != want {
			t.Errorf("%d bytes: %#x, want %#x", n, got, want)
		}
	}
}

// turned tells b with the pattern's bits turned, its lowest one at a place; the bits of a byte count lowest first.
func turned(b []byte, pattern uint32, place int) []byte {
	c := bytes.Clone(b)
	for i := range 32 {
		if pattern>>i&1 == 1 {
			c[(place+i)/8] ^= 1 << ((place + i) % 8)
		}
	}
	return c
}

// bursts tells patterns that begin with their lowest bit and have a given number of bits.
func bursts(r *rand.Rand, bits int) []uint32 {
	ends := uint32(1) | 1<<(bits-1)
	all := []uint32{ends, uint32(1<<bits - 1)}
	for range 4 {
		all = append(all, ends|r.Uint32()&uint32(1<<bits-1))
	}
	return all
}

// Bits that differ within 32 side by side are always found, at any place, in texts of any kind (P3.4).
func TestBursts(t *testing.T) {
	r := rand.New(rand.NewSource(32))
	for _, b := range [][]byte{some(1), some(3), some(4), some(5), some(9), some(40), make([]byte, 20), bytes.Repeat([]byte{255}, 20)} {
		sum := crc.Sum(b)
		for bits := 1; bits <= min(32, 8*len(b)); bits++ {
			for place := 0; place+bits <= 8*len(b); place++ {
				for _, pattern := range bursts(r, bits) {
					if crc.Sum(turned(b, pattern, place)) == sum {
						t.Errorf("%x with %#x turned at bit %d has one sum with it", b, pattern, place)
					}
				}
			}
		}
	}
}

// A byte changed to any other, at any place, is always found (P3.4).
func TestOneByteChanged(t *testing.T) {
	for _, n := range []int{1, 2, 4, 5, 64, 257} {
		b := some(n)
		sum := crc.Sum(b)
		for i := range b {
			for change := 1; change < 256; change++ {
				b[i] ^= byte(change)
				if crc.Sum(b) == sum {
					t.Errorf("byte %d of %d changed by %d: one sum", i, n, change)
				}
				b[i] ^= byte(change)
			}
		}
	}
}
