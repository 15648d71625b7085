package bytesio_test

import (
	"bytes"
	"errors"
	"math"
	"strings"
	"testing"

	"almoner/api"
	"almoner/bytesio"
)

// wantFault asks for a fault that errors.As finds, with just this name, place and reason (P1.5).
func wantFault(t *testing.T, err error, what string, at int, why error) {
	t.Helper()
	var f *api.Fault
	if !errors.As(err, &f) {
		t.Errorf("%v is no *api.Fault, want {%q, %d, %v}", err, what, at, why)
		return
	}
	if f.What != what || f.At != at || f.Err != why || !errors.Is(err, why) {
		t.Errorf("{%q, %d, %v}, want {%q, %d, %v}", f.What, f.At, f.Err, what, at, why)
	}
}

// wantBytes asks for these bytes of a writer, and no fault.
func wantBytes(t *testing.T, w *bytesio.Writer, want ...byte) {
	t.Helper()
	b, err := w.Done()
	if err != nil || !bytes.Equal(b, want) {
		t.Errorf("% d, %v, want % d", b, err, want)
	}
}

// wantNoBytes asks for a fault of a writer, and nothing beside it.
func wantNoBytes(t *testing.T, w *bytesio.Writer, what string, at int, why error) {
	t.Helper()
	b, err := w.Done()
	if len(b) != 0 {
		t.Errorf("% d beside a fault", b)
	}
	wantFault(t, err, what, at, why)
}

// wantGivenUp asks of a reader that it has given up so, and that all that is asked of it then is 0 or empty.
func wantGivenUp(t *testing.T, r *bytesio.Reader, what string, at int, why error) {
	t.Helper()
	r.Name("behind the fault")
	for range 2 {
		a, b, c, d, f := r.U8(), r.U16(), r.U32(), r.U64(), r.F32()
		l, s, n := r.Bytes(1<<20), r.Text(1<<20), r.Count(1<<20)
		if a != 0 || b != 0 || c != 0 || d != 0 || f != 0 || len(l) != 0 || s != "" || n != 0 {
			t.Errorf("behind a fault: %d %d %d %d %v % d %q %d", a, b, c, d, f, l, s, n)
		}
		l, s, n = r.Bytes(-1), r.Text(-1), r.Count(-1)
		if len(l) != 0 || s != "" || n != 0 {
			t.Errorf("behind a fault: % d %q %d", l, s, n)
		}
		r.Fail(api.ErrKind)
		r.Fail(nil)
		if r.At() != at {
			t.Errorf("place %d, want that of the fault, %d", r.At(), at)
		}
		wantFault(t, r.Err(), what, at, why)
		wantFault(t, r.Done(), what, at, why)
	}
}

// noQuantities are the bits of some numbers that no quantity may be.
func noQuantities() []uint32 {
	return []uint32{
		0x80000000,             // -0
		0x7f800000, 0xff800000, // the infinities
		0x7fc00000, 0xffc00000, 0xffc00001, 0x7fffffff, 0xffffffff, // quiet NaNs
		0x7f800001, 0xff800001, 0x7fbfffff, // signalling NaNs
	}
}

// quantities are the bits of some that one may be.
func quantities() []uint32 {
	return []uint32{
		0,
		0x00000001, 0x80000001, 0x007fffff, 0x807fffff, // subnormal numbers
		0x00800000, 0x80800000, 0x3f800000, 0xbf800000, 0x42120000,
		0x7f7fffff, 0xff7fffff, // the greatest, the least
	}
}

// part is one that is laid and read.
type part struct {
	kind  int
	bits  uint64
	bytes string
	most  int
}

const (
	kindU8 = iota
	kindU16
	kindU32
	kindU64
	kindF32
	kindBytes
	kindText
	kindCount
	kinds
)

func lay(w *bytesio.Writer, p part) {
	switch p.kind {
	case kindU8:
		w.U8(uint8(p.bits))
	case kindU16:
		w.U16(uint16(p.bits))
	case kindU32:
		w.U32(uint32(p.bits))
	case kindU64:
		w.U64(p.bits)
	case kindF32:
		w.F32(math.Float32frombits(uint32(p.bits)))
	case kindBytes:
		w.Bytes([]byte(p.bytes), p.most)
	case kindText:
		w.Text(p.bytes, p.most)
	case kindCount:
		w.Count(int(p.bits), p.most)
	}
}

// read reads a part of p's kind, with p's most.
func read(r *bytesio.Reader, p part) part {
	got := part{kind: p.kind, most: p.most}
	switch p.kind {
	case kindU8:
		got.bits = uint64(r.U8())
	case kindU16:
		got.bits = uint64(r.U16())
	case kindU32:
		got.bits = uint64(r.U32())
	case kindU64:
		got.bits = r.U64()
	case kindF32:
		got.bits = uint64(math.Float32bits(r.F32()))
	case kindBytes:
		got.bytes = string(r.Bytes(p.most))
	case kindText:
		got.bytes = strings.Clone(r.Text(p.most))
	case kindCount:
		got.bits = uint64(r.Count(p.most))
	}
	return got
}
