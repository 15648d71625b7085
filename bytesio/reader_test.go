package bytesio_test

import (
	"bytes"
	"errors"
	"math"
	"testing"

	"almoner/api"
	"almoner/bytesio"
)

// P1.3, R7: each part begins where the one ahead of it ends, the highest byte first.
func TestReaderReadsPartsInOrder(t *testing.T) {
	r := bytesio.NewReader([]byte{
		200,
		1, 2,
		255, 3, 4, 5,
		255, 2, 3, 4, 5, 6, 7, 8,
		66, 18, 0, 0,
		0, 0, 0, 2, 9, 255,
		0, 0, 0, 3, 97, 0, 255,
		0, 1, 2, 3,
		0, 0, 0, 0,
		0, 0, 0, 0,
		0, 0, 0, 0,
	})
	at := func(want int) {
		t.Helper()
		if r.At() != want || r.Err() != nil {
			t.Errorf("place %d, %v, want %d", r.At(), r.Err(), want)
		}
	}
	at(0)
	if v := r.U8(); v != 200 {
		t.Error(v)
	}
	at(1)
	if v := r.U16(); v != 0x0102 {
		t.Error(v)
	}
	at(3)
	if v := r.U32(); v != 0xff030405 {
		t.Error(v)
	}
	at(7)
	if v := r.U64(); v != 0xff02030405060708 {
		t.Error(v)
	}
	at(15)
	if v := r.F32(); v != 36.5 {
		t.Error(v)
	}
	at(19)
	if v := r.Bytes(2); !bytes.Equal(v, []byte{9, 255}) {
		t.Error(v)
	}
	at(25)
	if v := r.Text(3); v != "a\x00\xff" {
		t.Errorf("%q", v)
	}
	at(32)
	if v := r.Count(0x010203); v != 0x010203 {
		t.Error(v)
	}
	at(36)
	if b, s, n := r.Bytes(0), r.Text(0), r.Count(0); len(b) != 0 || s != "" || n != 0 {
		t.Error(b, s, n)
	}
	at(48)
	if err := r.Done(); err != nil {
		t.Error(err)
	}
}

// readers are the calls that read, each with an input that has just one part of its kind.
func readers() []struct {
	b    []byte
	zero func(r *bytesio.Reader) bool
} {
	return []struct {
		b    []byte
		zero func(r *bytesio.Reader) bool
	}{
		{[]byte{1}, func(r *bytesio.Reader) bool { return r.U8() == 0 }},
		{[]byte{1, 2}, func(r *bytesio.Reader) bool { return r.U16() == 0 }},
		{[]byte{1, 2, 3, 4}, func(r *bytesio.Reader) bool { return r.U32() == 0 }},
		{[]byte{1, 2, 3, 4, 5, 6, 7, 8}, func(r *bytesio.Reader) bool { return r.U64() == 0 }},
		{[]byte{63, 128, 0, 0}, func(r *bytesio.Reader) bool { return r.F32() == 0 }},
		{[]byte{0, 0, 0, 3, 7, 8, 9}, func(r *bytesio.Reader) bool { return len(r.Bytes(3)) == 0 }},
		{[]byte{0, 0, 0, 3, 97, 98, 99}, func(r *bytesio.Reader) bool { return r.Text(3) == "" }},
		{[]byte{0, 0, 1, 0}, func(r *bytesio.Reader) bool { return r.Count(256) == 0 }},
	}
}

// P1.3: every beginning of a part that is shorter than it is too short; the whole is none.
func TestReaderShort(t *testing.T) {
	for i, c := range readers() {
		for n := range len(c.b) {
			r := bytesio.NewReader(append([]byte{5, 6}, c.b[:n]...))
			r.U16()
			r.Name("note")
			if !c.zero(r) {
				t.Error(i, n, "something was told")
			}
			wantGivenUp(t, r, "note", 2, api.ErrShort)
		}
		r := bytesio.NewReader(append([]byte{5, 6}, c.b...))
		r.U16()
		if c.zero(r) || r.Done() != nil {
			t.Error(i, r.Done())
		}
	}
}

// P1.3: at the limit all is well, one past it not; and a number above most is told ahead of bytes that are missing.
func TestReaderMost(t *testing.T) {
	for n := range 6 {
		for most := -1; most < 6; most++ {
			for left := range n + 1 {
				b := append([]byte{1, 0, 0, 0, byte(n)}, make([]byte, left)...)
				for i, zero := range []func(r *bytesio.Reader) bool{
					func(r *bytesio.Reader) bool { return len(r.Bytes(most)) == 0 },
					func(r *bytesio.Reader) bool { return r.Text(most) == "" },
				} {
					r := bytesio.NewReader(b)
					r.U8()
					switch empty := zero(r); {
					case empty != (n > most || left < n || n == 0):
						t.Error(i, n, most, left, empty)
					case n > most:
						wantGivenUp(t, r, "", 1, api.ErrLong)
					case left < n:
						wantGivenUp(t, r, "", 1, api.ErrShort)
					case r.Done() != nil:
						t.Error(i, n, most, left, r.Done())
					}
				}
			}
			r := bytesio.NewReader([]byte{1, 0, 0, 0, byte(n)})
			r.U8()
			if got := r.Count(most); n > most {
				wantGivenUp(t, r, "", 1, api.ErrLong)
				if got != 0 {
					t.Error(got)
				}
			} else if got != n || r.Done() != nil {
				t.Error(n, most, got, r.Done())
			}
		}
	}
}

// P1.3: the edges of a count's number, and of most.
func TestReaderCountEdges(t *testing.T) {
	full := []byte{255, 255, 255, 255}
	for _, most := range []int{math.MaxUint32, math.MaxUint32 + 1, math.MaxInt} {
		r := bytesio.NewReader(full)
		if n := r.Count(most); n != math.MaxUint32 || r.Done() != nil {
			t.Error(most, n, r.Done())
		}
		r = bytesio.NewReader(full)
		if b := r.Bytes(most); len(b) != 0 {
			t.Error(most, len(b))
		}
		wantGivenUp(t, r, "", 0, api.ErrShort)
		r = bytesio.NewReader(full)
		if s := r.Text(most); s != "" {
			t.Error(most, len(s))
		}
		wantGivenUp(t, r, "", 0, api.ErrShort)
	}
	for _, most := range []int{math.MaxUint32 - 1, 0, -1, math.MinInt} {
		r := bytesio.NewReader(full)
		if n := r.Count(most); n != 0 {
			t.Error(most, n)
		}
		wantGivenUp(t, r, "", 0, api.ErrLong)
	}
}

// P1.3: of which bytes there is a quantity.
func TestReaderQuantities(t *testing.T) {
	for _, bits := range quantities() {
		r := bytesio.NewReader([]byte{byte(bits >> 24), byte(bits >> 16), byte(bits >> 8), byte(bits)})
		if v := r.F32(); math.Float32bits(v) != bits || r.Done() != nil {
			t.Error(bits, v, r.Done())
		}
	}
	for _, bits := range noQuantities() {
		r := bytesio.NewReader([]byte{9, byte(bits >> 24), byte(bits >> 16), byte(bits >> 8), byte(bits)})
		r.U8()
		if v := r.F32(); math.Float32bits(v) != 0 {
			t.Error(bits, v)
		}
		wantGivenUp(t, r, "", 1, api.ErrRange)
	}
}

// P1.4: Fail gives up at the part that was read last, whatever it was, under the name at that time.
func TestReaderFail(t *testing.T) {
	own := errors.New("own")
	for _, why := range []error{own, api.ErrOrder, api.OK, &api.Fault{What: "inner", At: 9, Err: api.ErrKind}} {
		for i, c := range readers() {
			r := bytesio.NewReader(append(append([]byte{5, 6}, c.b...), 1, 2, 3, 4, 5, 6, 7, 8))
			r.U8()
			r.U8()
			r.Name("part")
			if c.zero(r) {
				t.Error(i)
			}
			r.Name("note")
			r.Fail(why)
			wantGivenUp(t, r, "note", 2, why)
		}
	}
}

// P1.4: Fail ahead of all parts, and Fail of nil.
func TestReaderFailEdges(t *testing.T) {
	for _, b := range [][]byte{nil, {1, 2, 3}} {
		r := bytesio.NewReader(b)
		r.Name("note")
		r.Fail(api.ErrKind)
		wantGivenUp(t, r, "note", 0, api.ErrKind)
	}
	r := bytesio.NewReader([]byte{1, 2})
	r.Fail(nil)
	if r.U8() != 1 || r.At() != 1 {
		t.Error(r.At())
	}
	r.Fail(nil)
	if r.Err() != nil || r.At() != 1 || r.U8() != 2 || r.Done() != nil {
		t.Error(r.At(), r.Err())
	}
}

// P1.4: what Done says of bytes that are left is told, not kept, under the name at that time.
func TestReaderTrailing(t *testing.T) {
	r := bytesio.NewReader([]byte{1, 2, 3})
	wantFault(t, r.Done(), "", 0, api.ErrTrailing)
	r.U8()
	r.Name("end")
	for range 2 {
		wantFault(t, r.Done(), "end", 1, api.ErrTrailing)
		if r.Err() != nil || r.At() != 1 {
			t.Error(r.Err(), r.At())
		}
	}
	r.Name("more")
	if r.U16() != 0x0203 || r.Done() != nil || r.At() != 3 {
		t.Error(r.Done(), r.At())
	}
	if r := bytesio.NewReader(nil); r.Done() != nil || r.Err() != nil || r.At() != 0 {
		t.Error(r.Done(), r.Err(), r.At())
	}
}

// The document's examples of readers.
func TestReaderExamples(t *testing.T) {
	six := []byte{0, 0, 0, 3, 1, 2}
	r := bytesio.NewReader(six)
	r.Bytes(2)
	wantGivenUp(t, r, "", 0, api.ErrLong)
	r = bytesio.NewReader(six)
	r.Bytes(3)
	wantGivenUp(t, r, "", 0, api.ErrShort)
	r = bytesio.NewReader(six)
	if a, b := r.U32(), r.U16(); a != 3 || b != 258 || r.Done() != nil {
		t.Error(a, b, r.Done())
	}
	r = bytesio.NewReader([]byte{9, 255, 192, 0, 0, 1})
	if a, f, at, b := r.U8(), r.F32(), r.At(), r.U8(); a != 9 || f != 0 || at != 1 || b != 0 {
		t.Error(a, f, at, b)
	}
	wantFault(t, r.Err(), "", 1, api.ErrRange)
	r = bytesio.NewReader([]byte{1, 2, 3})
	if a, b := r.U8(), r.U8(); a != 1 || b != 2 {
		t.Error(a, b)
	}
	r.Fail(api.ErrOrder)
	wantGivenUp(t, r, "", 1, api.ErrOrder)
	r = bytesio.NewReader([]byte{1, 2, 3})
	if v := r.U16(); v != 258 {
		t.Error(v)
	}
	wantFault(t, r.Done(), "", 2, api.ErrTrailing)
	if v := r.U8(); v != 3 || r.Done() != nil {
		t.Error(v, r.Done())
	}
}
