package crc_test

import (
	"hash/crc32"
	"math"
	"math/rand"
	"testing"

	"almoner/crc"
)

// A matrix tells what becomes of each bit alone, when bytes 0 are taken in behind it.
type matrix [32]uint32

func (m matrix) of(c uint32) uint32 {
	var sum uint32
	for i := range m {
		if c>>i&1 == 1 {
			sum ^= m[i]
		}
	}
	return sum
}

// oneZero is made by another's sums of one byte 0, from each bit alone.
func oneZero() matrix {
	var m matrix
	for i := range m {
		m[i] = crc32.Update(1<<i, other, []byte{0}) ^ crc32.Update(0, other, []byte{0})
	}
	return m
}

// zeros tells the matrix of n bytes 0.
func zeros(n int) matrix {
	var m matrix
	for i := range m {
		m[i] = 1 << i
	}
	power := oneZero()
	for ; n > 0; n /= 2 {
		var squared matrix
		for i := range power {
			if n%2 == 1 {
				m[i] = power.of(m[i])
			}
			squared[i] = power.of(power[i])
		}
		power = squared
	}
	return m
}

// far are lengths round all powers of two, and others up to the greatest.
func far() []int {
	all := []int{math.MaxInt, math.MaxInt - 1, math.MaxInt / 3}
	for i := range 63 {
		all = append(all, 1<<i-1, 1<<i, 1<<i+1)
	}
	r := rand.New(rand.NewSource(63))
	for range 50 {
		all = append(all, int(r.Int63()), int(r.Int63n(1<<40)))
	}
	return all
}

// wantCombine asks for the sum that Combine tells.
func wantCombine(t *testing.T, first, second uint32, n int, want uint32) {
	t.Helper()
	if got, ok := crc.Combine(first, second, n); got != want || !ok {
		t.Errorf("Combine(%#x, %#x, %d): %#x, %v, want %#x", first, second, n, got, ok, want)
	}
}

// The chapter's examples (P3.3).
func TestCombineExamples(t *testing.T) {
	wantCombine(t, crc.Sum([]byte("1234")), crc.Sum([]byte("56789")), 5, 0xe3069283)
	wantCombine(t, 7, 9, 0, 14)
}

// A length below 0 is refused, whatever the sums are (P3.3).
func TestCombineBelowNothing(t *testing.T) {
	for _, n := range []int{-1, -2, -8, -256, -1 << 31, -1<<31 - 1, -1 << 62, math.MinInt + 1, math.MinInt} {
		for _, sum := range sums() {
			for _, second := range []uint32{0, 2, ^sum} {
				if got, ok := crc.Combine(sum, second, n); got != 0 || ok {
					t.Errorf("Combine(%#x, %#x, %d): %#x, %v, want 0, false", sum, second, n, got, ok)
				}
			}
		}
	}
}

// The promise's own words, over zeros that are laid, by the package's sums and another's (P3.3).
func TestCombineLaidZeros(t *testing.T) {
	lengths := []int{65535, 65536, 65537, 1 << 18, 1<<18 + 12345}
	for n := range 300 {
		lengths = append(lengths, n)
	}
	for _, n := range lengths {
		z := make([]byte, n)
		for i, first := range sums() {
			if n > 300 && i%10 != 0 {
				continue
			}
			second := first*2654435761 + uint32(n)
			wantCombine(t, first, second, n, crc.Update(first, z)^crc.Update(0, z)^second)
			wantCombine(t, first, second, n, crc32.Update(first, other, z)^crc32.Update(0, other, z)^second)
		}
	}
}

// Lengths that no memory holds, against matrices (P3.3).
func TestCombineFar(t *testing.T) {
	for _, n := range far() {
		m := zeros(n)
		for _, first := range sums() {
			second := first ^ uint32(n)
			wantCombine(t, first, second, n, m.of(first)^second)
		}
	}
}

// Zeros taken in one behind the other are those of both lengths: so the longest that have been laid reach to any (P3.3).
func TestCombineInTwoSteps(t *testing.T) {
	for _, n := range far() {
		for _, part := range []int{0, 1, n / 3, n / 2, n} {
			if part > n {
				continue
			}
			step, _ := crc.Combine(0xdeadbeef, 0, part)
			step, _ = crc.Combine(step, 5, n-part)
			wantCombine(t, 0xdeadbeef, 5, n, step)
		}
	}
}

// The polynomial is x + 1 times a primitive one of degree 31: 2^31 - 1 zeros leave a sum as it is. So do as many again, up to the greatest length (P3.3).
func TestCombineTurnsRound(t *testing.T) {
	const round = 1<<31 - 1
	for _, first := range sums() {
		wantCombine(t, first, 9, round, first^9)
		want, _ := crc.Combine(first, 9, 1)
		wantCombine(t, first, 9, math.MaxInt, want) // 2^63 - 1 is 1 and full rounds
		for _, n := range []int{0, 1, 2, 1000, round - 1} {
			want, _ := crc.Combine(first, 9, n)
			for _, rounds := range []int{1, 2, 1 << 20, math.MaxInt/round - 1} {
				wantCombine(t, first, 9, n+rounds*round, want)
			}
		}
	}
}
