package wire_test

import (
	"fmt"
	"math"
	"strings"

	"almoner/api"
)

const most32 = math.MaxUint32

// long makes a text of n bytes.
func long(n int) string { return strings.Repeat("x", n) }

// hash makes bytes that rise from a first one on.
func hash(first byte, n int) []byte {
	b := make([]byte, n)
	for i := range b {
		b[i] = first + byte(i)
	}
	return b
}

// fieldsOf makes n fields, rising by name.
func fieldsOf(n int) []api.Field {
	l := make([]api.Field, n)
	for i := range l {
		l[i] = api.Field{Name: fmt.Sprintf("f%02d", i), Kind: api.FieldText, Text: long(i % 65)}
		if i%2 == 1 {
			l[i] = api.Field{Name: l[i].Name, Kind: api.FieldQuantity, Value: float32(i), Unit: uint8(1 + i%21)}
		}
	}
	return l
}

// mixed are fields of all three kinds, at their least and their greatest.
func mixed() []api.Field {
	return []api.Field{
		{Name: "\x00", Kind: api.FieldText}, {Name: "\x00\x00", Kind: api.FieldGone}, {Name: "a", Kind: api.FieldText, Text: long(64)}, {Name: "b", Kind: api.FieldQuantity, Unit: 1},
		{Name: "ba", Kind: api.FieldQuantity, Value: math.MaxFloat32, Unit: 21}, {Name: "bb", Kind: api.FieldQuantity, Value: -math.SmallestNonzeroFloat32, Unit: 11},
		{Name: "\xff", Kind: api.FieldGone}, {Name: strings.Repeat("\xff", 64), Kind: api.FieldText, Text: "\x00\xff"},
	}
}

// kept are those of mixed that a record may have.
func kept() []api.Field {
	var l []api.Field
	for _, f := range mixed() {
		if f.Kind != api.FieldGone {
			l = append(l, f)
		}
	}
	return l
}

// filled is an id and an actor at their greatest.
func filled(q api.Request) api.Request {
	q.Id, q.Actor = api.Id{Client: most32, Number: most32 - 1}, most32-2
	return q
}

// requests are such that have a form: of each Op with all that it uses at its least and at its greatest.
func requests() []api.Request {
	var l []api.Request
	for op := uint8(1); op <= 7; op++ {
		l = append(l, api.Request{Op: op}, filled(api.Request{Op: op}))
	}
	for _, q := range []api.Request{
		{Op: api.OpCreate, Ward: most32, Owner: most32 - 3, Fields: kept()}, {Op: api.OpCreate, Fields: fieldsOf(1)}, {Op: api.OpCreate, Fields: fieldsOf(32)}, {Op: api.OpCreate, Fields: []api.Field{}},
		{Op: api.OpAmend, Record: most32, Version: most32 - 3, Fields: mixed()}, {Op: api.OpAmend, Fields: fieldsOf(32)}, {Op: api.OpAmend, Fields: []api.Field{{Name: "n", Kind: api.FieldGone}}},
		{Op: api.OpRead, Record: most32, Version: most32 - 3}, {Op: api.OpRedact, Record: most32, Version: most32 - 3}, {Op: api.OpHistory, Record: most32},
		{Op: api.OpSeal, Record: most32, Version: 1}, {Op: api.OpBreak, Record: most32, Reason: long(64)}, {Op: api.OpBreak, Reason: "\xff"},
	} {
		l = append(l, q, filled(q))
	}
	return l
}

// answers are such that may be told.
func answers() []api.Answer {
	id := api.Id{Client: most32, Number: most32 - 1}
	least, greatest := api.Summary{}, api.Summary{Author: most32, Event: most32 - 1, Fields: most32 - 2, Redacted: true}
	many := make([]api.Summary, 64)
	for i := range many {
		many[i] = api.Summary{Author: uint32(i), Event: uint32(2 * i), Fields: uint32(i % 33), Redacted: i%3 == 0}
	}
	l := []api.Answer{{}, {Id: id, Code: 10, Record: most32, Version: most32 - 2, Fields: kept(), History: []api.Summary{least, greatest}},
		{Fields: fieldsOf(1), History: many[:1]}, {Fields: fieldsOf(32), History: many}, {Fields: []api.Field{}, History: []api.Summary{}}}
	for code := uint8(0); code <= 10; code++ {
		l = append(l, api.Answer{Code: code})
	}
	return l
}

// events are such that may be told.
func events() []api.Event {
	var l []api.Event
	for i, q := range requests() {
		l = append(l, api.Event{Place: uint32(i), Request: q, Code: uint8(i % 11), Digest: hash(byte(i), 1+i%32)})
	}
	return append(l, api.Event{Place: most32, Request: api.Request{Op: 1}, Code: 10, Digest: hash(9, 32)}, api.Event{Request: api.Request{Op: 7}, Digest: hash(0, 1)})
}

// messages are such that may be told.
func messages() []api.Message {
	id := api.Id{Client: most32, Number: most32 - 1}
	l := []api.Message{{Kind: api.MsgAsk}, {Kind: api.MsgAsk, Id: id}, {Kind: api.MsgHave}, {Kind: api.MsgHave, Length: most32}, {Kind: api.MsgWhat},
		{Kind: api.MsgWhat, Request: api.Request{Fields: []api.Field{}}, Answer: api.Answer{Fields: []api.Field{}, History: []api.Summary{}}, Event: api.Event{Digest: []byte{}}}}
	for code := uint8(1); code <= 15; code++ {
		l = append(l, api.Message{Kind: api.MsgBusy, Code: code}, api.Message{Kind: api.MsgBusy, Id: id, Code: code})
	}
	for _, q := range requests() {
		l = append(l, api.Message{Kind: api.MsgRequest, Request: q})
	}
	for _, a := range answers() {
		l = append(l, api.Message{Kind: api.MsgAnswer, Answer: a})
	}
	for _, e := range events() {
		l = append(l, api.Message{Kind: api.MsgGive, Event: e})
	}
	return l
}

// proofOf makes one of n hashes.
func proofOf(n int) api.Proof {
	var p api.Proof
	for i := range n {
		p.Hashes = append(p.Hashes, hash(byte(i), 1+i%32))
	}
	return p
}

// samples are things of all seven kinds that may be told; those of many bytes come from heavy.
func samples() []any {
	var l []any
	for _, q := range requests() {
		l = append(l, q)
	}
	for _, a := range answers() {
		l = append(l, a)
	}
	for _, e := range events() {
		l = append(l, e)
	}
	for _, m := range messages() {
		l = append(l, m)
	}
	for _, h := range []api.Head{{Root: hash(0, 1)}, {Size: most32, Root: hash(200, 32)}, {Size: 258, Root: hash(7, 1)}} {
		l = append(l, h, api.Signed{Head: h}, api.Signed{Head: h, Key: most32, Signature: hash(3, 1)}, api.Signed{Head: h, Key: 1, Signature: hash(3, 300)})
	}
	for _, n := range []int{0, 1, 2, 40} {
		l = append(l, proofOf(n))
	}
	return append(l, api.Proof{Hashes: [][]byte{hash(1, 32), hash(2, 32)}})
}

// heavy are things at limits that have many bytes.
func heavy() []any {
	return []any{api.Signed{Head: api.Head{Root: hash(0, 1)}, Signature: hash(1, 32768)}, api.Signed{Head: api.Head{Size: most32, Root: hash(9, 32)}, Key: most32, Signature: hash(1, 32767)}, proofOf(4096), proofOf(4095)}
}
