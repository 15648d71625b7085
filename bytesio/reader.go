package bytesio

import (
	"bytes"
	"math"

	"almoner/api"
)

// Reader goes through bytes.
type Reader struct {
	keeper
	all  []byte
	at   int // how many bytes were gone through
	part int // where the part that was begun last lies: a fault is told there
}

// NewReader makes one at the first byte.
func NewReader(b []byte) *Reader { return &Reader{all: bytes.Clone(b)} }

// Name says what the parts that follow are: a fault tells it.
func (r *Reader) Name(what string) { r.name = what }

// U8 reads a number of one byte.
func (r *Reader) U8() uint8 {
	return readPart(r, func() uint8 { return uint8(r.number(1)) })
}

// U16 reads one of two.
func (r *Reader) U16() uint16 {
	return readPart(r, func() uint16 { return uint16(r.number(2)) })
}

// U32 reads one of four.
func (r *Reader) U32() uint32 {
	return readPart(r, func() uint32 { return uint32(r.number(4)) })
}

// U64 reads one of eight.
func (r *Reader) U64() uint64 {
	return readPart(r, func() uint64 { return r.number(8) })
}

// F32 reads a quantity.
func (r *Reader) F32() float32 {
	return readPart(r, func() float32 {
		bits := uint32(r.number(4))
		r.refuseIf(!isQuantity(bits), api.ErrRange)
		return math.Float32frombits(bits)
	})
}

// Bytes reads how many bytes there are, at most so many, and they.
func (r *Reader) Bytes(most int) []byte {
	return readPart(r, func() []byte { return bytes.Clone(r.take(r.count(most))) })
}

// Text reads a text.
func (r *Reader) Text(most int) string {
	return readPart(r, func() string { return string(r.take(r.count(most))) })
}

// Count reads how many things follow, at most so many.
func (r *Reader) Count(most int) int {
	return readPart(r, func() int { return r.count(most) })
}

// Fail gives up at the beginning of the part that was read last, for that reason.
func (r *Reader) Fail(err error) {
	r.attempt(func() { r.refuseIf(err != nil, err) })
}

// At tells the place of the next part; of a reader that has given up, that of its fault.
func (r *Reader) At() int {
	if r.fault != nil {
		return r.fault.At
	}
	return r.at
}

// Err tells the first fault, or nil.
func (r *Reader) Err() error { return r.told() }

// Done tells the first fault; bytes that are left are one, but that one is not kept: they may still be read.
func (r *Reader) Done() error {
	if r.fault == nil && r.at < len(r.all) {
		return r.faultAt(r.at, api.ErrTrailing)
	}
	return r.told()
}

// readPart reads the part that begins at the reader's place; 0 or empty, where the reader gives up or has.
func readPart[T any](r *Reader, read func() T) (v T) {
	r.attempt(func() {
		r.part = r.at
		v = read()
	})
	return v
}

// refuseIf throws a fault at the place of the part that was begun last.
func (r *Reader) refuseIf(bad bool, why error) {
	if bad {
		r.throwAt(r.part, why)
	}
}

// count reads a number of things. Held against most as a number without sign, it fits into an int wherever it is not above.
func (r *Reader) count(most int) int {
	n := r.number(countSize)
	r.refuseIf(most < 0 || n > uint64(most), api.ErrLong)
	return int(n)
}

// number reads a number of size bytes, the highest first.
func (r *Reader) number(size int) (v uint64) {
	for _, b := range r.take(size) {
		v = v<<8 | uint64(b)
	}
	return v
}

// take goes through the next n bytes. They are the reader's own: a caller gets a copy of them.
func (r *Reader) take(n int) []byte {
	r.refuseIf(n > len(r.all)-r.at, api.ErrShort)
	from := r.at
	r.at += n
	return r.all[from:r.at]
}
