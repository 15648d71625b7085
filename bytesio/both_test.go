package bytesio_test

import (
	"bytes"
	"errors"
	"math"
	"math/rand/v2"
	"slices"
	"testing"

	"almoner/api"
	"almoner/bytesio"
)

// P1.5: a fault is a *api.Fault; errors.Is finds its Err, also what that wraps, and nothing else.
func TestFaultsAreFound(t *testing.T) {
	own := errors.New("own")
	inner := &api.Fault{What: "inner", At: 3, Err: api.ErrOrder}
	for _, why := range []error{own, inner, api.EFORM, api.ErrShort} {
		w := bytesio.NewWriter()
		w.Fail(why)
		_, werr := w.Done()
		r := bytesio.NewReader(nil)
		r.Fail(why)
		for _, err := range []error{werr, r.Err(), r.Done()} {
			wantFault(t, err, "", 0, why)
			if errors.Is(err, api.ErrKind) || errors.Is(err, api.ErrOrder) != (why == error(inner)) {
				t.Error(err)
			}
		}
	}
}

// randomPart makes one that may be laid.
func randomPart(rnd *rand.Rand) part {
	p := part{kind: rnd.IntN(kinds), bits: rnd.Uint64() >> rnd.IntN(64)}
	switch p.kind {
	case kindU8:
		p.bits &= math.MaxUint8
	case kindU16:
		p.bits &= math.MaxUint16
	case kindU32:
		p.bits &= math.MaxUint32
	case kindF32:
		q := quantities()
		p.bits = uint64(q[rnd.IntN(len(q))])
	case kindBytes, kindText:
		b := make([]byte, rnd.IntN(20))
		for i := range b {
			b[i] = byte(rnd.UintN(256))
		}
		p.bits, p.bytes, p.most = 0, string(b), len(b)+rnd.IntN(2)
	case kindCount:
		p.bits &= math.MaxUint32
		p.most = int(p.bits) + rnd.IntN(2)
	}
	return p
}

// P1.6: what was laid is read, part by part, and the reader is at the end then; each shorter beginning is too short.
func TestLaidIsRead(t *testing.T) {
	rnd := rand.New(rand.NewPCG(1, 2))
	for range 500 {
		parts := make([]part, rnd.IntN(12))
		w := bytesio.NewWriter()
		for i := range parts {
			parts[i] = randomPart(rnd)
			lay(w, parts[i])
		}
		b, err := w.Done()
		if err != nil {
			t.Fatal(parts, err)
		}
		r := bytesio.NewReader(b)
		for i, p := range parts {
			if got := read(r, p); got != p {
				t.Fatalf("part %d: %v, want %v", i, got, p)
			}
		}
		if r.Done() != nil || r.At() != len(b) {
			t.Fatal(parts, r.Done())
		}
		for n := range b {
			r := bytesio.NewReader(b[:n])
			for _, p := range parts {
				read(r, p)
			}
			if !errors.Is(r.Done(), api.ErrShort) {
				t.Fatal(parts, n, r.Done())
			}
		}
	}
}

// P1.6: what a reader has read to the end is, laid again, just the bytes that it was handed: so no two lists of parts of
// the same kinds have the same bytes. And what it tells is never more than these.
func TestReadIsLaid(t *testing.T) {
	rnd := rand.New(rand.NewPCG(3, 4))
	whole := 0
	for range 200000 {
		b := make([]byte, rnd.IntN(14))
		for i := range b {
			b[i] = byte(rnd.UintN(4) * rnd.UintN(2) * rnd.UintN(86))
		}
		r := bytesio.NewReader(b)
		var parts []part
		told := 0
		for r.Err() == nil && r.At() < len(b) {
			p := read(r, part{kind: rnd.IntN(kinds), most: rnd.IntN(3) * math.MaxInt32})
			told += len(p.bytes)
			parts = append(parts, p)
		}
		if told > len(b) || r.At() > len(b) {
			t.Fatal(b, told, r.At())
		}
		if r.Done() != nil {
			continue
		}
		whole++
		w := bytesio.NewWriter()
		for _, p := range parts {
			lay(w, p)
		}
		if again, err := w.Done(); err != nil || !bytes.Equal(again, b) {
			t.Fatal(b, again, err)
		}
	}
	if whole < 1000 {
		t.Error("too few were read to the end:", whole)
	}
}

// P1.6: how texts are cut is to be seen in the bytes.
func TestTextsAreCutApart(t *testing.T) {
	texts := []string{"", "\x00", "\x01", "a", "aa", "\x00\x00\x00\x00", "\x00\x00\x00\x01a"}
	seen := map[string][2]string{}
	for _, x := range texts {
		for _, y := range texts {
			w := bytesio.NewWriter()
			w.Text(x, 9)
			w.Bytes([]byte(y), 9)
			b, err := w.Done()
			if other, ok := seen[string(b)]; ok || err != nil {
				t.Errorf("%q %q and %q: % d, %v", x, y, other, b, err)
			}
			seen[string(b)] = [2]string{x, y}
		}
	}
}

// spare makes a list of these bytes with room behind them, and tells the whole of it.
func spare(b ...byte) (list, all []byte) {
	all = append(slices.Clone(b), 77, 77, 77, 77)
	return all[:len(b)], all
}

// fill writes over a list, and over its spare room.
func fill(b []byte) {
	b = b[:cap(b)]
	for i := range b {
		b[i] = 99
	}
}

// R4: what is handed in is not changed, its spare room included, and not kept.
func TestHandedInIsLeft(t *testing.T) {
	list, all := spare(5, 6)
	w := bytesio.NewWriter()
	w.Bytes(list, 2)
	w.U8(1)
	if _, err := w.Done(); err != nil || !bytes.Equal(all, []byte{5, 6, 77, 77, 77, 77}) {
		t.Error(all, err)
	}
	fill(list)
	wantBytes(t, w, 0, 0, 0, 2, 5, 6, 1)

	list, all = spare(0, 0, 0, 2, 5, 6, 7)
	r := bytesio.NewReader(list)
	if b := r.Bytes(2); !bytes.Equal(b, []byte{5, 6}) {
		t.Error(b)
	}
	if !bytes.Equal(all, []byte{0, 0, 0, 2, 5, 6, 7, 77, 77, 77, 77}) {
		t.Error(all)
	}
	fill(list)
	if v := r.U8(); v != 7 || r.Done() != nil {
		t.Error(v, r.Done())
	}
	list, _ = spare(0, 0, 0, 2, 97, 98)
	r = bytesio.NewReader(list)
	s := r.Text(2)
	fill(list)
	if s != "ab" {
		t.Error(s)
	}
}

// R4: what is answered is new memory, its spare room too, each time.
func TestAnsweredIsNew(t *testing.T) {
	w := bytesio.NewWriter()
	w.U16(258)
	first, _ := w.Done()
	second, _ := w.Done()
	fill(first)
	if !bytes.Equal(second, []byte{1, 2}) {
		t.Error(second)
	}
	w.U8(3)
	fill(second)
	wantBytes(t, w, 1, 2, 3)
	third, _ := w.Done()
	w.U8(4)
	if !bytes.Equal(third, []byte{1, 2, 3}) {
		t.Error(third)
	}

	r := bytesio.NewReader([]byte{0, 0, 0, 0, 0, 0, 0, 1, 8, 0, 0, 0, 1, 9, 0, 0, 0, 1, 97})
	none, eight, nine := r.Bytes(0), r.Bytes(1), r.Bytes(1)
	fill(none)
	fill(eight)
	if !bytes.Equal(nine, []byte{9}) {
		t.Error(nine)
	}
	fill(nine)
	if s := r.Text(1); s != "a" || r.Done() != nil {
		t.Error(s, r.Done())
	}
}

// R5: what a caller does to a fault that it was told is not to be seen in the next answer.
func TestFaultsAreTheCallersOwn(t *testing.T) {
	spoil := func(err error) {
		var f *api.Fault
		if !errors.As(err, &f) {
			t.Fatal(err)
		}
		*f = api.Fault{What: "spoilt", At: 99, Err: api.ErrKind}
	}
	w := bytesio.NewWriter()
	w.Count(-1, 5)
	_, err := w.Done()
	spoil(err)
	wantNoBytes(t, w, "", 0, api.ErrRange)
	r := bytesio.NewReader([]byte{1})
	r.U16()
	spoil(r.Err())
	spoil(r.Done())
	wantGivenUp(t, r, "", 0, api.ErrShort)
}

// R5: two objects have nothing in common.
func TestObjectsStandAlone(t *testing.T) {
	a, b := bytesio.NewWriter(), bytesio.NewWriter()
	a.Name("a")
	a.U8(1)
	b.U8(2)
	a.Fail(api.ErrKind)
	wantBytes(t, b, 2)
	b.Fail(api.ErrOrder)
	wantNoBytes(t, a, "a", 1, api.ErrKind)
	wantNoBytes(t, b, "", 1, api.ErrOrder)

	list := []byte{1, 2}
	x, y := bytesio.NewReader(list), bytesio.NewReader(list)
	x.U16()
	x.U8()
	if y.At() != 0 || y.Err() != nil || y.U16() != 258 || y.Done() != nil {
		t.Error(y.At(), y.Done())
	}
}

// R1: no call panics, whatever it is handed, in whatever order.
func TestNoCallPanics(t *testing.T) {
	rnd := rand.New(rand.NewPCG(5, 6))
	numbers := []int{math.MinInt, math.MinInt32, -1, 0, 1, 3, math.MaxInt32, math.MaxUint32, math.MaxUint32 + 1, math.MaxInt}
	number := func() int { return numbers[rnd.IntN(len(numbers))] }
	for range 20000 {
		b := make([]byte, rnd.IntN(10))
		for i := range b {
			b[i] = byte(rnd.UintN(2) * rnd.UintN(256))
		}
		r, w := bytesio.NewReader(b), bytesio.NewWriter()
		for range 6 {
			p := part{kind: rnd.IntN(kinds), bits: uint64(number()), bytes: string(b), most: number()}
			read(r, p)
			lay(w, p)
			r.Done()
			w.Done()
		}
	}
}
