package wal

import "almoner/crc"

// headSize is how many bytes of a frame come ahead of its payload: the payload's length, the same turned, the sum.
const headSize = 12

// state is what is found where a frame is looked for.
type state int

const (
	whole state = iota
	torn
	broken
)

// framed tells a payload's frame.
func framed(payload []byte) []byte {
	n := uint32(len(payload))
	b := make([]byte, 0, headSize+len(payload))
	b = appendNumber(b, n)
	b = appendNumber(b, ^n)
	b = appendNumber(b, sum(b, payload))
	return append(b, payload...)
}

// look tells how many bytes the payload has whose frame b begins with, if it is whole; most is how many there may be.
//
// The length is told twice, so that a turned bit of it is not taken for a frame of which the end is missing.
func look(b []byte, most int) (int, state) {
	if len(b) < headSize {
		return 0, torn
	}
	n := number(b)
	if number(b[4:]) != ^n || n > uint32(most) {
		return 0, broken
	}
	size, rest := int(n), b[headSize:]
	if len(rest) < size {
		return 0, torn
	}
	if number(b[8:]) != sum(b[:8], rest[:size]) {
		return 0, broken
	}
	return size, whole
}

// sum tells that of a frame's first 8 bytes and its payload.
func sum(lengths, payload []byte) uint32 { return crc.Update(crc.Sum(lengths), payload) }

func appendNumber(b []byte, n uint32) []byte {
	return append(b, byte(n>>24), byte(n>>16), byte(n>>8), byte(n))
}

// number tells the one that b begins with.
func number(b []byte) uint32 {
	return uint32(b[0])<<24 | uint32(b[1])<<16 | uint32(b[2])<<8 | uint32(b[3])
}
