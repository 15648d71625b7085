package wire_test

import (
	"bytes"
	"slices"
	"testing"

	"almoner/api"
)

// with tells bytes of which those from a place on are others.
func with(b []byte, at int, others ...byte) []byte {
	b = slices.Clone(b)
	copy(b[at:], others)
	return b
}

// badGet is bytes of no thing of that form, and the fault that says so.
type badGet struct {
	form uint8
	b    []byte
	what string
	at   int
	why  error
}

func wantGetFaults(t *testing.T, l []badGet) {
	t.Helper()
	for _, c := range l {
		wantGetFault(t, c.form, c.b, c.what, c.at, c.why)
		heldGet(t, c.form, c.b)
	}
}

// P7.3: each form's number on each other thing's bytes, and numbers of no form.
func TestForms(t *testing.T) {
	for _, v := range samples() {
		b := mustPut(t, v)
		own := thingOf(v).form
		if b[0] != own {
			t.Errorf("P7.1: the form of %+v: %d", v, b[0])
		}
		for _, k := range things() {
			if k.form != own {
				wantGetFault(t, k.form, b, "form", 0, api.ErrKind)
				wantGetFault(t, own, with(b, 0, k.form), "form", 0, api.ErrKind)
			}
		}
		for _, n := range []byte{0, 8, 9, 128, 255} {
			wantGetFault(t, own, with(b, 0, n), "form", 0, api.ErrKind)
		}
	}
	for _, k := range things() {
		wantGetFaults(t, []badGet{{k.form, nil, "form", 0, api.ErrShort}, {k.form, []byte{}, "form", 0, api.ErrShort}, {k.form, []byte{0}, "form", 0, api.ErrKind}})
	}
}

// P7.1, P7.3: every part of a request wrong by itself.
func TestRequestsThatAreNone(t *testing.T) {
	b := mustPut(t, api.Request{Op: api.OpHistory})
	wantGetFaults(t, []badGet{
		{1, with(b, 13, 0), "op", 13, api.ErrKind}, {1, with(b, 13, 8), "op", 13, api.ErrKind}, {1, with(b, 13, 255), "op", 13, api.ErrKind}, {1, with(b, 18, 0, 0, 0, 1), "version", 18, api.ErrRange}, {1, with(b, 18, 1), "version", 18, api.ErrRange},
		{1, with(b, 22, 0, 0, 1), "ward", 22, api.ErrRange}, {1, with(b, 26, 0, 0, 0, 1), "owner", 26, api.ErrRange}, {1, with(b, 30, 0, 0, 0, 1), "fields", 30, api.ErrRange}, {1, with(b, 30, 0, 0, 0, 32), "fields", 30, api.ErrRange},
		{1, with(b, 30, 0, 0, 0, 33), "fields", 30, api.ErrLong}, {1, with(b, 30, 255, 255, 255, 255), "fields", 30, api.ErrLong}, {1, with(b, 34, 0, 0, 0, 1), "reason", 34, api.ErrShort}, {1, append(with(b, 34, 0, 0, 0, 1), 9), "reason", 34, api.ErrRange},
		{1, with(b, 34, 0, 0, 0, 65), "reason", 34, api.ErrLong}, {1, with(b, 34, 128), "reason", 34, api.ErrLong}, {1, append(with(b, 34, 0, 0, 0, 64), make([]byte, 64)...), "reason", 34, api.ErrRange},
		{1, with(b, 13, 8, 1, 1, 1, 1, 1, 1, 1, 1), "op", 13, api.ErrKind}, {1, with(b, 18, 1, 1, 1, 1, 1, 1, 1, 1), "version", 18, api.ErrRange},
	})
	for op := uint8(1); op <= 7; op++ {
		for part, at := range map[string]int{"record": 14, "version": 18, "ward": 22, "owner": 26} {
			c := with(with(b, 13, op), at, 0, 0, 0, 2)
			if !opUses(op, part) || part == "version" && op == api.OpSeal {
				wantGetFaults(t, []badGet{{1, c, part, at, api.ErrRange}})
			} else if !heldGet(t, 1, c) {
				t.Errorf("P7.1: the part %s of the Op %d is refused", part, op)
			}
		}
	}
}

// P7.1, P7.3: every part of a field wrong by itself. The name lies at 34.
func TestFieldsThatAreNone(t *testing.T) {
	text := mustPut(t, create(api.Field{Name: "n", Kind: api.FieldText, Text: "x"}))                // kind 39, text 40, reason 45
	number := mustPut(t, create(api.Field{Name: "n", Kind: api.FieldQuantity, Value: 1, Unit: 21})) // value 40, unit 44, reason 45
	gone := mustPut(t, amend(api.Field{Name: "n", Kind: api.FieldGone}))
	two := mustPut(t, create(api.Field{Name: "n", Kind: api.FieldText}, api.Field{Name: "o", Kind: api.FieldText})) // names 34, 44
	wantGetFaults(t, []badGet{
		{1, with(text, 34, 0, 0, 0, 0), "name", 34, api.ErrRange}, {1, with(text, 34, 0, 0, 0, 65), "name", 34, api.ErrLong}, {1, with(text, 34, 0, 0, 0, 64), "name", 34, api.ErrShort}, {1, with(text, 34, 255), "name", 34, api.ErrLong},
		{1, with(text, 39, 0), "kind", 39, api.ErrKind}, {1, with(text, 39, 3), "kind", 39, api.ErrKind}, {1, with(text, 39, 4), "kind", 39, api.ErrKind}, {1, with(text, 39, 255), "kind", 39, api.ErrKind}, {1, with(gone, 39, 4), "kind", 39, api.ErrKind},
		{1, with(text, 40, 0, 0, 0, 65), "text", 40, api.ErrLong}, {1, with(text, 40, 0, 0, 0, 64), "text", 40, api.ErrShort}, {1, with(text, 40, 1), "text", 40, api.ErrLong},
		{1, with(number, 40, 128, 0, 0, 0), "value", 40, api.ErrRange}, {1, with(number, 40, 127, 128, 0, 0), "value", 40, api.ErrRange}, {1, with(number, 40, 255, 128, 0, 0), "value", 40, api.ErrRange}, {1, with(number, 40, 127, 192, 0, 0), "value", 40, api.ErrRange}, {1, with(number, 40, 255, 255, 255, 255), "value", 40, api.ErrRange},
		{1, with(number, 44, 0), "unit", 44, api.ErrRange}, {1, with(number, 44, 22), "unit", 44, api.ErrRange}, {1, with(number, 44, 255), "unit", 44, api.ErrRange},
		{1, with(two, 48, 'n'), "name", 44, api.ErrOrder}, {1, with(two, 48, 'm'), "name", 44, api.ErrOrder}, {1, with(two, 44, 0, 0, 0, 0), "name", 44, api.ErrRange}, {1, with(two, 44, 0, 0, 0, 65, 'a'), "name", 44, api.ErrLong}, {1, with(two, 44, 0, 0, 0, 64, 'a'), "name", 44, api.ErrShort},
		{1, with(text, 30, 0, 0, 0, 33), "fields", 30, api.ErrLong}, {1, with(gone, 13, api.OpCreate), "kind", 39, api.ErrKind}, {1, with(text, 34, 0, 0, 0, 0, 9, 9), "name", 34, api.ErrRange},
	})
	answer := mustPut(t, api.Answer{Fields: []api.Field{{Name: "n", Kind: api.FieldText}}}) // kind 27
	wantGetFaults(t, []badGet{{2, with(answer, 27, 3), "kind", 27, api.ErrKind}, {2, with(answer, 27, 4), "kind", 27, api.ErrKind}, {2, with(answer, 22, 0, 0, 0, 0), "name", 22, api.ErrRange}})
}

// P7.1, P7.3: every part of the other things wrong by itself, and counts that say more than there are bytes.
func TestOthersThatAreNone(t *testing.T) {
	answer := mustPut(t, api.Answer{History: make([]api.Summary, 2)}) // author 26 39, event 30 43, many 34 47, gone 38 51
	event := mustPut(t, api.Event{Request: api.Request{Op: api.OpRead}, Digest: hash(1, 2)})
	signed := mustPut(t, api.Signed{Head: api.Head{Root: hash(1, 1)}, Signature: hash(1, 2)}) // key 10, signature 14
	proof := mustPut(t, proofOf(2))                                                           // hashes 5, 10
	give := mustPut(t, api.Message{Kind: api.MsgGive, Event: api.Event{Request: api.Request{Op: api.OpRead}, Digest: hash(1, 2)}})
	wantGetFaults(t, []badGet{
		{2, with(answer, 9, 11), "code", 9, api.ErrKind}, {2, with(answer, 9, 255), "code", 9, api.ErrKind}, {2, with(answer, 18, 0, 0, 0, 33), "fields", 18, api.ErrLong}, {2, with(answer[:22], 18, 0, 0, 0, 32), "name", 22, api.ErrShort}, {2, with(answer, 22, 0, 0, 0, 65), "history", 22, api.ErrLong}, {2, with(answer, 22, 255), "history", 22, api.ErrLong},
		{2, with(answer, 22, 0, 0, 0, 64), "author", 52, api.ErrShort}, {2, with(answer, 22, 0, 0, 0, 1), "end", 39, api.ErrTrailing}, {2, with(answer, 22, 0, 0, 0, 0), "end", 26, api.ErrTrailing},
		{2, with(answer, 38, 2), "gone", 38, api.ErrRange}, {2, with(answer, 51, 2), "gone", 51, api.ErrRange}, {2, with(answer, 51, 255), "gone", 51, api.ErrRange},
		{3, with(event, 42, 11), "code", 42, api.ErrKind}, {3, with(event, 43, 0, 0, 0, 0), "digest", 43, api.ErrRange}, {3, with(event, 43, 0, 0, 0, 33), "digest", 43, api.ErrLong}, {3, with(event, 43, 0, 0, 0, 32), "digest", 43, api.ErrShort}, {3, with(event, 43, 0, 0, 0, 1), "end", 48, api.ErrTrailing}, {3, with(event, 17, 9), "op", 17, api.ErrKind},
		{5, with(signed, 5, 0, 0, 0, 0), "root", 5, api.ErrRange}, {5, with(signed, 5, 0, 0, 0, 33), "root", 5, api.ErrLong}, {5, with(signed, 14, 0, 0, 128, 1), "signature", 14, api.ErrLong}, {5, with(signed, 14, 0, 0, 128, 0), "signature", 14, api.ErrShort}, {5, with(signed, 14, 0, 0, 0, 0), "end", 18, api.ErrTrailing}, {5, with(signed, 14, 255, 255, 255, 255), "signature", 14, api.ErrLong},
		{6, with(proof, 1, 0, 0, 16, 1), "hashes", 1, api.ErrLong}, {6, with(proof, 1, 255, 255, 255, 255), "hashes", 1, api.ErrLong}, {6, with(proof, 1, 0, 0, 16, 0), "hash", 16, api.ErrShort}, {6, with(proof, 1, 0, 0, 0, 1), "end", 10, api.ErrTrailing}, {6, with(proof, 5, 0, 0, 0, 0), "hash", 5, api.ErrRange}, {6, with(proof, 10, 0, 0, 0, 33), "hash", 10, api.ErrLong},
		{7, []byte{7}, "kind", 1, api.ErrShort}, {7, []byte{7, 0}, "kind", 1, api.ErrKind}, {7, []byte{7, 8}, "kind", 1, api.ErrKind}, {7, []byte{7, 255, 1}, "kind", 1, api.ErrKind}, {7, []byte{7, 7, 0}, "end", 2, api.ErrTrailing}, {7, []byte{7, 6, 0, 0, 0}, "length", 2, api.ErrShort}, {7, []byte{7, 6, 0, 0, 0, 0, 1}, "end", 6, api.ErrTrailing},
		{7, []byte{7, 2}, "client", 2, api.ErrShort}, {7, []byte{7, 2, 0, 0, 0, 1, 2}, "number", 6, api.ErrShort}, {7, []byte{7, 4, 0, 0, 0, 1, 0, 0, 0, 2}, "busy", 10, api.ErrShort}, {7, with(give, 18, 0), "op", 18, api.ErrKind}, {7, with(give, 44, 0, 0, 0, 0), "digest", 44, api.ErrRange},
	})
}

// P7.3, P7.4: each beginning of a thing's bytes is too short, at the part that lies there; its bytes and more behind them are refused at the end.
func TestBeginningsAndMoreBehind(t *testing.T) {
	for _, v := range samples() {
		b, form := mustPut(t, v), thingOf(v).form
		begins := map[int]string{}
		at := 0
		for _, r := range rowsOf(v) {
			begins[at] = r.name
			at += len(r.bytes)
		}
		begin := 0
		for n := range b {
			if begins[n] != "" {
				begin = n
			}
			wantGetFault(t, form, b[:n], begins[begin], begin, api.ErrShort)
		}
		for _, more := range [][]byte{{0}, {255}, b[:1], b, make([]byte, 1000)} {
			wantGetFault(t, form, append(slices.Clone(b), more...), "end", len(b), api.ErrTrailing)
		}
	}
	for _, v := range heavy() {
		b, form := mustPut(t, v), thingOf(v).form
		for _, n := range []int{1, 2, 5, 30, len(b) / 2, len(b) - 1} {
			if heldGet(t, form, b[:n]) {
				t.Errorf("P7.4: %d of %d bytes are read", n, len(b))
			}
		}
		wantGetFault(t, form, append(slices.Clone(b), 0), "end", len(b), api.ErrTrailing)
	}
}

// P7.3: a fault is the caller's own: what is done to it is not to be seen in later answers.
func TestFaultsAreTheCallersOwn(t *testing.T) {
	for range 2 {
		_, err := thingOf(api.Head{}).get([]byte{4})
		if !isFault(err, "size", 1, api.ErrShort) {
			t.Fatal(err)
		}
		*err.(*api.Fault) = api.Fault{What: "spoilt"}
	}
	if !bytes.Equal(mustPut(t, api.Message{Kind: api.MsgWhat}), []byte{7, 7}) {
		t.Error("P7.2: a later answer is spoilt")
	}
}
