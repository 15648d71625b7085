package sha

import "math/bits"

const (
	blockSize = 64
	firsts    = blockSize / 4 // a block's own words
	rounds    = 64
	stateSize = 32
	lengthAt  = blockSize - 8 // where, in the last block, the number of bits stands
)

// state is the eight words a to h into which blocks are folded.
type state [stateSize / 4]uint32

// block is what is folded at once.
type block [blockSize]byte

// start is the state of no block: the first 32 bits behind the point of the second roots of the first primes.
var start = state{
	0x6a09e667, 0xbb67ae85, 0x3c6ef372, 0xa54ff53a, 0x510e527f, 0x9b05688c, 0x1f83d9ab, 0x5be0cd19,
}

// k has a word a round: the first 32 bits behind the point of the third roots of the first primes.
var k = [rounds]uint32{
	0x428a2f98, 0x71374491, 0xb5c0fbcf, 0xe9b5dba5, 0x3956c25b, 0x59f111f1, 0x923f82a4, 0xab1c5ed5,
	0xd807aa98, 0x12835b01, 0x243185be, 0x550c7dc3, 0x72be5d74, 0x80deb1fe, 0x9bdc06a7, 0xc19bf174,
	0xe49b69c1, 0xefbe4786, 0x0fc19dc6, 0x240ca1cc, 0x2de92c6f, 0x4a7484aa, 0x5cb0a9dc, 0x76f988da,
	0x983e5152, 0xa831c66d, 0xb00327c8, 0xbf597fc7, 0xc6e00bf3, 0xd5a79147, 0x06ca6351, 0x14292967,
	0x27b70a85, 0x2e1b2138, 0x4d2c6dfc, 0x53380d13, 0x650a7354, 0x766a0abb, 0x81c2c92e, 0x92722c85,
	0xa2bfe8a1, 0xa81a664b, 0xc24b8b70, 0xc76c51a3, 0xd192e819, 0xd6990624, 0xf40e3585, 0x106aa070,
	0x19a4c116, 0x1e376c08, 0x2748774c, 0x34b0bcb5, 0x391c0cb3, 0x4ed8aa4a, 0x5b9cca4f, 0x682e6ff3,
	0x748f82ee, 0x78a5636f, 0x84c87814, 0x8cc70208, 0x90befffa, 0xa4506ceb, 0xbef9a3f7, 0xc67178f2,
}

// fold tells what s becomes by the block.
func fold(s state, from block) state {
	words := schedule(from)
	a, b, c, d, e, f, g, h := s[0], s[1], s[2], s[3], s[4], s[5], s[6], s[7]
	for i := range rounds {
		x := h + (ror(e, 6) ^ ror(e, 11) ^ ror(e, 25)) + ((e & f) ^ (^e & g)) + k[i] + words[i]
		y := (ror(a, 2) ^ ror(a, 13) ^ ror(a, 22)) + ((a & b) ^ (a & c) ^ (b & c))
		a, b, c, d, e, f, g, h = x+y, a, b, c, d+x, e, f, g
	}
	return state{s[0] + a, s[1] + b, s[2] + c, s[3] + d, s[4] + e, s[5] + f, s[6] + g, s[7] + h}
}

// schedule tells a block's 16 words, and those for the later rounds that are made of them.
func schedule(from block) [rounds]uint32 {
	var w [rounds]uint32
	for i := range firsts {
		w[i] = uint32(from[4*i])<<24 | uint32(from[4*i+1])<<16 | uint32(from[4*i+2])<<8 | uint32(from[4*i+3])
	}
	for n := range rounds - firsts {
		i := n + firsts
		late, early := w[i-2], w[i-15]
		w[i] = (ror(late, 17) ^ ror(late, 19) ^ late>>10) + w[i-7] + (ror(early, 7) ^ ror(early, 18) ^ early>>3) + w[i-16]
	}
	return w
}

// ror turns a word right by n bits.
func ror(x uint32, n int) uint32 { return bits.RotateLeft32(x, -n) }

// bytes tells the words as bytes, the highest first.
func (s state) bytes() [stateSize]byte {
	var out [stateSize]byte
	for i, word := range s {
		out[4*i], out[4*i+1], out[4*i+2], out[4*i+3] = byte(word>>24), byte(word>>16), byte(word>>8), byte(word)
	}
	return out
}
