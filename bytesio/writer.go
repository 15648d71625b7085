package bytesio

import (
	"bytes"
	"math"

	"almoner/api"
)

// Writer lays parts one behind the other.
type Writer struct {
	keeper
	laid []byte
}

// NewWriter makes one that has nothing.
func NewWriter() *Writer { return &Writer{} }

// Name says what the parts that follow are: a fault tells it.
func (w *Writer) Name(what string) { w.name = what }

// U8 lays a number of one byte.
func (w *Writer) U8(v uint8) {
	w.attempt(func() { w.number(1, uint64(v)) })
}

// U16 lays one of two.
func (w *Writer) U16(v uint16) {
	w.attempt(func() { w.number(2, uint64(v)) })
}

// U32 lays one of four.
func (w *Writer) U32(v uint32) {
	w.attempt(func() { w.number(4, uint64(v)) })
}

// U64 lays one of eight.
func (w *Writer) U64(v uint64) {
	w.attempt(func() { w.number(8, v) })
}

// F32 lays a quantity.
func (w *Writer) F32(v float32) {
	w.attempt(func() {
		bits := math.Float32bits(v)
		w.refuseIf(!isQuantity(bits), api.ErrRange)
		w.number(4, uint64(bits))
	})
}

// Bytes lays how many bytes there are, and they, at most so many.
func (w *Writer) Bytes(b []byte, most int) {
	w.attempt(func() {
		w.count(len(b), most)
		w.laid = append(w.laid, b...)
	})
}

// Text lays a text, at most so many bytes.
func (w *Writer) Text(s string, most int) {
	w.attempt(func() {
		w.count(len(s), most)
		w.laid = append(w.laid, s...)
	})
}

// Count lays how many things follow, at most so many.
func (w *Writer) Count(n, most int) {
	w.attempt(func() {
		w.refuseIf(n < 0, api.ErrRange)
		w.count(n, most)
	})
}

// Fail gives up at this place, for that reason.
func (w *Writer) Fail(err error) {
	w.attempt(func() { w.refuseIf(err != nil, err) })
}

// Done tells the bytes, or the first fault.
func (w *Writer) Done() ([]byte, error) {
	if w.fault != nil {
		return nil, w.told()
	}
	return bytes.Clone(w.laid), nil
}

// refuseIf throws a fault at the place of the next part. So a part is looked at whole ahead of its first byte's being laid.
func (w *Writer) refuseIf(bad bool, why error) {
	if bad {
		w.throwAt(len(w.laid), why)
	}
}

// count lays a number of things that is not below 0.
func (w *Writer) count(n, most int) {
	w.refuseIf(n > most || uint64(n) > maxCount, api.ErrLong)
	w.number(countSize, uint64(n))
}

// number lays the lowest size bytes of v, the highest of them first.
func (w *Writer) number(size int, v uint64) {
	for i := range size {
		w.laid = append(w.laid, byte(v>>(8*(size-1-i))))
	}
}
