package bytesio_test

import (
	"bytes"
	"errors"
	"math"
	"testing"

	"almoner/api"
	"almoner/bytesio"
)

func bitsAsFloat(bits uint32) float32 { return math.Float32frombits(bits) }

// P1.1, R7: each part behind those laid, the highest byte first.
func TestWriterLaysPartsInOrder(t *testing.T) {
	for _, c := range []struct {
		name string
		lay  func(w *bytesio.Writer)
		want []byte
	}{
		{"nothing", func(w *bytesio.Writer) {}, nil},
		{"U8", func(w *bytesio.Writer) { w.U8(0); w.U8(7); w.U8(255) }, []byte{0, 7, 255}},
		{"U16", func(w *bytesio.Writer) { w.U16(0x0102); w.U16(0xfffe) }, []byte{1, 2, 255, 254}},
		{"U32", func(w *bytesio.Writer) { w.U32(0x01020304); w.U32(0xfffefdfc) }, []byte{1, 2, 3, 4, 255, 254, 253, 252}},
		{"U64", func(w *bytesio.Writer) { w.U64(0x0102030405060708) }, []byte{1, 2, 3, 4, 5, 6, 7, 8}},
		{"U64 max", func(w *bytesio.Writer) { w.U64(math.MaxUint64 - 1) }, []byte{255, 255, 255, 255, 255, 255, 255, 254}},
		{"F32", func(w *bytesio.Writer) { w.F32(36.5); w.F32(-1) }, []byte{66, 18, 0, 0, 191, 128, 0, 0}},
		{"Bytes", func(w *bytesio.Writer) { w.Bytes([]byte{9, 8}, 5) }, []byte{0, 0, 0, 2, 9, 8}},
		{"Bytes, none", func(w *bytesio.Writer) { w.Bytes(nil, 0); w.Bytes([]byte{}, 0) }, []byte{0, 0, 0, 0, 0, 0, 0, 0}},
		{"Text", func(w *bytesio.Writer) { w.Text("é\xff\x00", 4) }, []byte{0, 0, 0, 4, 0xc3, 0xa9, 255, 0}},
		{"Text, none", func(w *bytesio.Writer) { w.Text("", 0) }, []byte{0, 0, 0, 0}},
		{"Count", func(w *bytesio.Writer) { w.Count(0x010203, 0x010203) }, []byte{0, 1, 2, 3}},
		{"names", func(w *bytesio.Writer) { w.Name("a"); w.U8(1); w.Name("b"); w.U8(2) }, []byte{1, 2}},
		{
			"the document's",
			func(w *bytesio.Writer) { w.U16(258); w.Text("ab", 2); w.F32(1) },
			[]byte{1, 2, 0, 0, 0, 2, 97, 98, 63, 128, 0, 0},
		},
	} {
		w := bytesio.NewWriter()
		c.lay(w)
		b, err := w.Done()
		if err != nil || !bytes.Equal(b, c.want) {
			t.Errorf("%s: % d, %v, want % d", c.name, b, err, c.want)
		}
	}
}

// P1.1: more than 255 and more than 65535 bytes have their number in four bytes.
func TestWriterLaysLongLists(t *testing.T) {
	long := bytes.Repeat([]byte{5}, 0x010203)
	want := append([]byte{0, 1, 2, 3}, long...)
	w := bytesio.NewWriter()
	w.Bytes(long, len(long))
	wantBytes(t, w, want...)
	w = bytesio.NewWriter()
	w.Text(string(long), math.MaxInt)
	wantBytes(t, w, want...)
}

// P1.1: at the limit all is well, one past it not.
func TestWriterMost(t *testing.T) {
	for most := range 6 {
		for n := range 6 {
			for i, do := range []func(w *bytesio.Writer){
				func(w *bytesio.Writer) { w.Bytes(make([]byte, n), most) },
				func(w *bytesio.Writer) { w.Text(string(make([]byte, n)), most) },
				func(w *bytesio.Writer) { w.Count(n, most) },
			} {
				w := bytesio.NewWriter()
				do(w)
				if n > most {
					wantNoBytes(t, w, "", 0, api.ErrLong)
				} else if b, err := w.Done(); err != nil || len(b) < 4 || b[3] != byte(n) {
					t.Errorf("%d: %d of %d: % d, %v", i, n, most, b, err)
				}
			}
		}
	}
}

// P1.1: the edges of a count's number.
func TestWriterCountEdges(t *testing.T) {
	w := bytesio.NewWriter()
	w.Count(math.MaxUint32, math.MaxInt)
	w.Count(math.MaxUint32, math.MaxUint32)
	wantBytes(t, w, 255, 255, 255, 255, 255, 255, 255, 255)
	for _, c := range []struct {
		n, most int
		why     error
	}{
		{math.MaxUint32 + 1, math.MaxInt, api.ErrLong},
		{math.MaxInt, math.MaxInt, api.ErrLong},
		{1 << 40, 1 << 40, api.ErrLong},
		{6, 5, api.ErrLong},
		{0, -1, api.ErrLong},
		{0, math.MinInt, api.ErrLong},
		{-1, 5, api.ErrRange},
		{-1, -1, api.ErrRange},
		{-1, -5, api.ErrRange},
		{math.MinInt, math.MaxInt, api.ErrRange},
	} {
		w := bytesio.NewWriter()
		w.Count(c.n, c.most)
		wantNoBytes(t, w, "", 0, c.why)
	}
}

// P1.1: which numbers a quantity may be.
func TestWriterQuantities(t *testing.T) {
	for _, bits := range quantities() {
		w := bytesio.NewWriter()
		w.F32(bitsAsFloat(bits))
		wantBytes(t, w, byte(bits>>24), byte(bits>>16), byte(bits>>8), byte(bits))
	}
	for _, bits := range noQuantities() {
		w := bytesio.NewWriter()
		w.U8(1)
		w.F32(bitsAsFloat(bits))
		wantNoBytes(t, w, "", 1, api.ErrRange)
	}
}

// P1.1: the first fault is the one, at the place where its part would lie, under the name at that time.
func TestWriterGivesUpOnce(t *testing.T) {
	own := errors.New("own")
	faults := []struct {
		do  func(w *bytesio.Writer)
		why error
	}{
		{func(w *bytesio.Writer) { w.F32(bitsAsFloat(0x80000000)) }, api.ErrRange},
		{func(w *bytesio.Writer) { w.Bytes([]byte{1, 2, 3}, 2) }, api.ErrLong},
		{func(w *bytesio.Writer) { w.Bytes(nil, -1) }, api.ErrLong},
		{func(w *bytesio.Writer) { w.Text("abc", 2) }, api.ErrLong},
		{func(w *bytesio.Writer) { w.Text("", math.MinInt) }, api.ErrLong},
		{func(w *bytesio.Writer) { w.Count(-1, 5) }, api.ErrRange},
		{func(w *bytesio.Writer) { w.Count(6, 5) }, api.ErrLong},
		{func(w *bytesio.Writer) { w.Fail(api.ErrKind) }, api.ErrKind},
		{func(w *bytesio.Writer) { w.Fail(own) }, own},
	}
	for i, first := range faults {
		for _, second := range faults {
			w := bytesio.NewWriter()
			w.Name("early")
			w.U64(1)
			w.Text("ab", 2)
			w.Name("note")
			first.do(w)
			wantNoBytes(t, w, "note", 14, first.why)
			w.Name("other")
			second.do(w)
			w.U8(1)
			w.U16(1)
			w.U32(1)
			w.U64(1)
			w.F32(1)
			w.Bytes([]byte{1}, 1)
			w.Text("a", 1)
			w.Count(1, 1)
			w.Fail(nil)
			wantNoBytes(t, w, "note", 14, first.why)
			if t.Failed() {
				t.Fatal("fault", i)
			}
		}
	}
}

// P1.1: the name of the fault is empty at first, and the last one that was said.
func TestWriterName(t *testing.T) {
	w := bytesio.NewWriter()
	w.Fail(api.ErrKind)
	wantNoBytes(t, w, "", 0, api.ErrKind)
	w = bytesio.NewWriter()
	w.Name("a")
	w.Name("b")
	w.Fail(api.ErrKind)
	wantNoBytes(t, w, "b", 0, api.ErrKind)
	w = bytesio.NewWriter()
	w.Name("a")
	w.Name("")
	w.Fail(api.ErrKind)
	wantNoBytes(t, w, "", 0, api.ErrKind)
}

// P1.1: Fail of nil is nothing.
func TestWriterFailNil(t *testing.T) {
	w := bytesio.NewWriter()
	w.Fail(nil)
	w.U8(1)
	w.Fail(nil)
	wantBytes(t, w, 1)
	w.Fail(api.ErrOrder)
	wantNoBytes(t, w, "", 1, api.ErrOrder)
}

// P1.2: Done may be asked again, and one may go on behind it.
func TestWriterDoneAgain(t *testing.T) {
	w := bytesio.NewWriter()
	wantBytes(t, w)
	w.U8(1)
	wantBytes(t, w, 1)
	wantBytes(t, w, 1)
	w.Text("a", 1)
	wantBytes(t, w, 1, 0, 0, 0, 1, 97)
	w.Fail(api.ErrKind)
	wantNoBytes(t, w, "", 6, api.ErrKind)
	wantNoBytes(t, w, "", 6, api.ErrKind)
}

// The document's examples of writers that give up.
func TestWriterExamples(t *testing.T) {
	w := bytesio.NewWriter()
	w.U8(7)
	w.Name("note")
	w.Bytes([]byte{1, 2, 3}, 2)
	w.U8(8)
	wantNoBytes(t, w, "note", 1, api.ErrLong)
	w = bytesio.NewWriter()
	w.F32(float32(math.Copysign(0, -1)))
	wantNoBytes(t, w, "", 0, api.ErrRange)
	w = bytesio.NewWriter()
	w.Count(-1, 5)
	wantNoBytes(t, w, "", 0, api.ErrRange)
	w = bytesio.NewWriter()
	w.Count(6, 5)
	w.Fail(api.ErrKind)
	wantNoBytes(t, w, "", 0, api.ErrLong)
}
