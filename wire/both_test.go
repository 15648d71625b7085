package wire_test

import (
	"bytes"
	"math/rand/v2"
	"slices"
	"testing"

	"almoner/api"
	"almoner/wire"
)

// P7.4: what is told is read as that thing, with all its parts at their least and at their greatest.
func TestThereAndBack(t *testing.T) {
	for _, v := range append(samples(), heavy()...) {
		if !heldPut(t, v) {
			t.Errorf("P7.2: %+v is refused", v)
			continue
		}
		b, k := mustPut(t, v), thingOf(v)
		got, err := k.get(b)
		if err != nil || !same(got, v) {
			t.Errorf("P7.4: Get%s of Put%s(%+v): %+v, %v", k.name, k.name, v, got, err)
		}
		heldGet(t, k.form, b)
	}
}

// P7.4: no two things have the same bytes.
func TestNoTwoThingsHaveTheSameBytes(t *testing.T) {
	seen := map[string]any{}
	for _, v := range samples() {
		b := string(mustPut(t, v))
		if other, ok := seen[b]; ok && (thingOf(other).form != thingOf(v).form || !same(other, v)) {
			t.Errorf("P7.4: %+v and %+v: % x", other, v, b)
		}
		seen[b] = v
	}
}

// P7.3, P7.4: each byte of a thing's bytes turned into each other one (of longer things: into those at the parts' edges): what is read is told again as just these bytes, and all else is refused as the words say.
func TestEachByteTurned(t *testing.T) {
	var all, edges []byte
	for x := range 256 {
		all = append(all, byte(x))
	}
	edges = append(edges, 0, 1, 2, 3, 4, 7, 8, 10, 11, 15, 16, 21, 22, 32, 33, 64, 65, 97, 98, 127, 128, 255)
	for i, v := range samples() {
		b, form := mustPut(t, v), thingOf(v).form
		others := edges
		if len(b) < 50 && i%4 == 0 {
			others = all
		}
		if len(b) > 150 && i%8 != 0 {
			continue
		}
		for at := range b {
			for _, x := range others {
				heldGet(t, form, with(b, at, x))
			}
		}
		if t.Failed() {
			t.FailNow()
		}
	}
}

// P7.3, P7.4: any bytes at all, and bytes of things with some cut out, put in or turned.
func TestAnyBytes(t *testing.T) {
	rnd := rand.New(rand.NewPCG(7, 1))
	all, read := samples(), 0
	small := []byte{0, 0, 0, 1, 2, 3, 4, 7, 11, 32, 33, 64, 65, 127, 128, 255}
	any1 := func() byte { return small[rnd.IntN(len(small))] }
	for range 15000 {
		v := all[rnd.IntN(len(all))]
		b, form := slices.Clone(mustPut(t, v)), thingOf(v).form
		for range 1 + rnd.IntN(3) {
			at := rnd.IntN(len(b) + 1)
			switch end := min(len(b), at+1+rnd.IntN(4)); rnd.IntN(4) {
			case 0:
				b = slices.Delete(b, at, end)
			case 1:
				b = slices.Insert(b, at, any1())
			case 2:
				for i := at; i < end; i++ {
					b[i] = any1()
				}
			case 3:
				if at < len(b) {
					b[at] = byte(rnd.UintN(256))
				}
			}
		}
		if heldGet(t, form, b) {
			read++
		}
		noise := make([]byte, rnd.IntN(60))
		for i := range noise {
			noise[i] = any1()
		}
		for _, k := range things() {
			heldGet(t, k.form, noise)
			heldGet(t, k.form, append([]byte{k.form}, noise...))
		}
		if t.Failed() {
			t.FailNow()
		}
	}
	if read < 500 {
		t.Error("too few were read:", read)
	}
}

// wild makes things of which a part is wrong now and then, in any way.
type wild struct{ *rand.Rand }

// odd is true now and then.
func (w wild) odd() bool { return w.IntN(25) == 0 }

func (w wild) u32() uint32 {
	l := []uint32{0, 0, 1, 2, 255, 256, 1 << 31, most32}
	return l[w.IntN(len(l))]
}

// u8 makes a number from least to most, or, now and then, any.
func (w wild) u8(least, most int) uint8 {
	if w.odd() {
		return uint8(w.UintN(256))
	}
	return uint8(least + w.IntN(most-least+1))
}

// size makes one from least to most, or, now and then, one beside.
func (w wild) size(least, most int) int {
	switch {
	case w.odd():
		return most + 1
	case w.odd():
		return max(0, least-1)
	case w.odd():
		return most
	}
	return min(most, least+w.IntN(4))
}

func (w wild) text(least, most int) string {
	return string(hash(byte(w.UintN(256)), w.size(least, most)))
}

func (w wild) bytes() []byte { return hash(byte(w.UintN(256)), w.size(1, 32)) }

func (w wild) value() float32 {
	l := []uint32{0, 1, 0x3f800000, 0xbf800000, 0x7f7fffff, 0x80000001, 0x42120000}
	if w.odd() {
		l = []uint32{1 << 31, 0x7f800000, 0xff800000, 0x7fc00000, 0x7f800001, most32}
	}
	return float(l[w.IntN(len(l))])
}

func (w wild) fields(last int) []api.Field {
	l := make([]api.Field, w.size(0, 32))
	for i := range l {
		f := &l[i]
		f.Name, f.Kind = string(rune('A'+i))+w.text(0, 63), w.u8(1, last)
		if f.Kind == 1 || w.IntN(200) == 0 {
			f.Text = w.text(0, 64)
		}
		if f.Kind == 2 || w.IntN(200) == 0 {
			f.Value, f.Unit = w.value(), w.u8(1, 21)
		}
	}
	if len(l) > 1 && w.odd() {
		i := w.IntN(len(l) - 1)
		l[i+1].Name = []string{l[i].Name, "", "A", l[i].Name + "x"}[w.IntN(4)]
	}
	return l
}

func (w wild) request() api.Request {
	q := api.Request{Id: api.Id{Client: w.u32(), Number: w.u32()}, Actor: w.u32(), Op: w.u8(1, 7)}
	uses := func(part string) bool { return opUses(q.Op, part) != w.odd() }
	if uses("record") {
		q.Record = w.u32()
	}
	if uses("version") {
		q.Version = w.u32()
	}
	if uses("ward") {
		q.Ward = w.u32()
	}
	if uses("owner") {
		q.Owner = w.u32()
	}
	if uses("fields") {
		q.Fields = w.fields(2 + w.IntN(2)*int(q.Op&2)/2)
	}
	if uses("reason") {
		q.Reason = w.text(0, 64)
	}
	return q
}

func (w wild) answer() api.Answer {
	a := api.Answer{Id: api.Id{Client: w.u32(), Number: w.u32()}, Code: w.u8(0, 10), Record: w.u32(), Version: w.u32(), Fields: w.fields(2)}
	for range w.size(0, 64) {
		a.History = append(a.History, api.Summary{Author: w.u32(), Event: w.u32(), Fields: w.u32(), Redacted: w.odd()})
	}
	return a
}

func (w wild) event() api.Event {
	return api.Event{Place: w.u32(), Request: w.request(), Code: w.u8(0, 10), Digest: w.bytes()}
}

func (w wild) message() api.Message {
	m := api.Message{Kind: w.u8(1, 7)}
	has := func(kinds ...uint8) bool { return slices.Contains(kinds, m.Kind) != (w.IntN(100) == 0) }
	if has(api.MsgRequest) {
		m.Request = w.request()
	}
	if has(api.MsgAsk, api.MsgBusy) {
		m.Id = api.Id{Client: w.u32(), Number: w.u32()}
	}
	if has(api.MsgAnswer) {
		m.Answer = w.answer()
	}
	if has(api.MsgBusy) {
		m.Code = w.u8(1, 15)
	}
	if has(api.MsgGive) {
		m.Event = w.event()
	}
	if has(api.MsgHave) {
		m.Length = w.u32()
	}
	return m
}

func (w wild) proof() (p api.Proof) {
	for range w.IntN(6) {
		p.Hashes = append(p.Hashes, w.bytes())
	}
	return p
}

// P7.2, P7.4: things of which some parts are wrong, held against the words; what has bytes is read as it is.
func TestWildThings(t *testing.T) {
	w := wild{rand.New(rand.NewPCG(7, 2))}
	told := map[string]int{}
	for range 8000 {
		head := api.Head{Size: w.u32(), Root: w.bytes()}
		for _, v := range []any{w.request(), w.answer(), w.event(), head, api.Signed{Head: head, Key: w.u32(), Signature: hash(1, w.IntN(40))}, w.proof(), w.message()} {
			if !heldPut(t, v) {
				continue
			}
			k := thingOf(v)
			told[k.name]++
			if got, err := k.get(mustPut(t, v)); err != nil || !same(got, v) {
				t.Errorf("P7.4: %+v: %+v, %v", v, got, err)
			}
		}
		if t.Failed() {
			t.FailNow()
		}
	}
	for _, k := range things() {
		if told[k.name] < 1000 || told[k.name] > 7900 {
			t.Error("too few, or too many, were told:", k.name, told[k.name])
		}
	}
}

// P7.5: PutRequest is refused just if the request has no form; PutEvent just if its request has none, its code is no answer's, or its digest is too short or too long.
func TestRefusedJustWithoutAForm(t *testing.T) {
	w := wild{rand.New(rand.NewPCG(7, 3))}
	all := requests()
	for range 30000 {
		all = append(all, w.request())
	}
	some := 0
	for i, q := range all {
		has := formed(q)
		if has {
			some++
		}
		if b, err := wire.PutRequest(q); has != (err == nil) || has != (len(b) > 0) {
			t.Fatalf("P7.5: PutRequest(%+v): %v, a form: %v", q, err, has)
		}
		e := api.Event{Place: w.u32(), Request: q, Code: uint8(i % 13), Digest: hash(1, i%35)}
		want := has && e.Code <= api.BadUnit && len(e.Digest) >= 1 && len(e.Digest) <= 32
		if b, err := wire.PutEvent(e); want != (err == nil) || want != (len(b) > 0) {
			t.Fatalf("P7.5: PutEvent(%+v): %v, want %v", e, err, want)
		}
	}
	if some < 5000 || some > len(all)-5000 {
		t.Error("too few, or too many, had a form:", some)
	}
}

// R5: what is told hangs on the thing alone: the same each time, whatever was asked between.
func TestToldAgain(t *testing.T) {
	var first [][]byte
	for _, v := range samples() {
		first = append(first, mustPut(t, v))
	}
	wire.PutHead(api.Head{})
	wire.GetProof([]byte{6})
	for i, v := range samples() {
		if !bytes.Equal(mustPut(t, v), first[i]) {
			t.Errorf("R5: %+v is told otherwise", v)
		}
	}
}
