package wire_test

import (
	"math"
	"testing"

	"almoner/api"
)

// badPut is a thing that may not be told, and the fault that says so.
type badPut struct {
	v    any
	what string
	at   int
	why  error
}

func wantPutFaults(t *testing.T, l []badPut) {
	t.Helper()
	for _, c := range l {
		wantPutFault(t, c.v, c.what, c.at, c.why)
		heldPut(t, c.v)
	}
}

// float makes a number of its bits.
func float(bits uint32) float32 { return math.Float32frombits(bits) }

// The chapter's examples.
func TestExamples(t *testing.T) {
	wantBoth(t, api.Head{Size: 258, Root: []byte{7}}, 4, 0, 0, 1, 2, 0, 0, 0, 1, 7)
	wantPutFault(t, api.Head{Size: 1}, "root", 5, api.ErrRange)
	wantGetFault(t, 4, []byte{4, 0, 0, 0, 1, 0, 0, 0, 0}, "root", 5, api.ErrRange)
	wantGetFault(t, 4, nil, "form", 0, api.ErrShort)
	wantGetFault(t, 4, []byte{5}, "form", 0, api.ErrKind)
	wantGetFault(t, 4, []byte{4, 0, 0}, "size", 1, api.ErrShort)
	wantGetFault(t, 4, []byte{4, 0, 0, 0, 1, 0, 0, 0, 33, 1, 2}, "root", 5, api.ErrLong)
	wantGetFault(t, 6, []byte{6, 0, 0, 0, 0, 9}, "end", 5, api.ErrTrailing)
	wantBoth(t, api.Message{Kind: api.MsgHave, Length: 5}, 7, 6, 0, 0, 0, 5)
	wantPutFault(t, api.Message{Kind: api.MsgHave, Code: 1}, "kind", 1, api.ErrRange)
	wantPutFault(t, api.Message{Kind: 8}, "kind", 1, api.ErrKind)
	wantBoth(t, api.Request{Id: api.Id{Client: 1, Number: 2}, Actor: 3, Op: api.OpRead, Record: 4}, 1, 0, 0, 0, 1, 0, 0, 0, 2, 0, 0, 0, 3, 3, 0, 0, 0, 4, 0, 0, 0, 0, 0, 0, 0, 0, 0, 0, 0, 0, 0, 0, 0, 0, 0, 0, 0, 0)
	wantPutFault(t, api.Request{Op: api.OpRead, Ward: 1}, "ward", 22, api.ErrRange)
	wantPutFault(t, api.Request{Op: api.OpAmend, Fields: []api.Field{{Name: "b", Kind: api.FieldGone}, {Name: "a", Kind: api.FieldGone}}}, "name", 40, api.ErrOrder)
	wantPutFault(t, api.Request{Op: api.OpCreate, Fields: []api.Field{{Name: "a", Kind: api.FieldGone}}}, "kind", 39, api.ErrKind)
	wantBoth(t, api.Answer{Fields: []api.Field{{Name: "t", Kind: api.FieldQuantity, Value: 36.5, Unit: 11}}}, 2, 0, 0, 0, 0, 0, 0, 0, 0, 0, 0, 0, 0, 0, 0, 0, 0, 0, 0, 0, 0, 1, 0, 0, 0, 1, 116, 2, 66, 18, 0, 0, 11, 0, 0, 0, 0)
}

// P7.1: the parts of each thing, in their order, no two of them alike.
func TestPartsInTheirOrder(t *testing.T) {
	create := []byte{0, 0, 0, 1, 0, 0, 0, 2, 0, 0, 0, 3, 1, 0, 0, 0, 0, 0, 0, 0, 0, 0, 0, 0, 4, 0, 0, 0, 5, 0, 0, 0, 2, 0, 0, 0, 1, 97, 1, 0, 0, 0, 2, 104, 105, 0, 0, 0, 1, 98, 2, 63, 128, 0, 0, 6, 0, 0, 0, 0}
	made := api.Request{Id: api.Id{Client: 1, Number: 2}, Actor: 3, Op: api.OpCreate, Ward: 4, Owner: 5, Fields: []api.Field{{Name: "a", Kind: api.FieldText, Text: "hi"}, {Name: "b", Kind: api.FieldQuantity, Value: 1, Unit: 6}}}
	wantBoth(t, made, append([]byte{1}, create...)...)
	wantBoth(t, api.Request{Id: api.Id{Client: 1, Number: 2}, Actor: 3, Op: api.OpAmend, Record: 4, Version: 5, Fields: []api.Field{{Name: "g", Kind: api.FieldGone}}},
		1, 0, 0, 0, 1, 0, 0, 0, 2, 0, 0, 0, 3, 2, 0, 0, 0, 4, 0, 0, 0, 5, 0, 0, 0, 0, 0, 0, 0, 0, 0, 0, 0, 1, 0, 0, 0, 1, 103, 3, 0, 0, 0, 0)
	wantBoth(t, api.Request{Op: api.OpBreak, Record: 1, Reason: "no"}, 1, 0, 0, 0, 0, 0, 0, 0, 0, 0, 0, 0, 0, 7, 0, 0, 0, 1, 0, 0, 0, 0, 0, 0, 0, 0, 0, 0, 0, 0, 0, 0, 0, 0, 0, 0, 0, 2, 110, 111)
	answer := []byte{0, 0, 0, 1, 0, 0, 0, 2, 10, 0, 0, 0, 3, 0, 0, 0, 4, 0, 0, 0, 0, 0, 0, 0, 2, 0, 0, 0, 5, 0, 0, 0, 6, 0, 0, 0, 7, 1, 0, 0, 0, 8, 0, 0, 0, 9, 0, 0, 0, 10, 0}
	told := api.Answer{Id: api.Id{Client: 1, Number: 2}, Code: 10, Record: 3, Version: 4, History: []api.Summary{{Author: 5, Event: 6, Fields: 7, Redacted: true}, {Author: 8, Event: 9, Fields: 10}}}
	wantBoth(t, told, append([]byte{2}, answer...)...)
	event := append(append([]byte{0, 0, 0, 9}, create...), 7, 0, 0, 0, 3, 3, 2, 1)
	kept := api.Event{Place: 9, Request: made, Code: 7, Digest: []byte{3, 2, 1}}
	wantBoth(t, kept, append([]byte{3}, event...)...)
	wantBoth(t, api.Signed{Head: api.Head{Size: 1, Root: []byte{9, 8}}, Key: 2, Signature: []byte{6, 5, 4}}, 5, 0, 0, 0, 1, 0, 0, 0, 2, 9, 8, 0, 0, 0, 2, 0, 0, 0, 3, 6, 5, 4)
	wantBoth(t, api.Proof{Hashes: [][]byte{{9}, {8, 7}}}, 6, 0, 0, 0, 2, 0, 0, 0, 1, 9, 0, 0, 0, 2, 8, 7)
	wantBoth(t, api.Message{Kind: api.MsgRequest, Request: made}, append([]byte{7, 1}, create...)...)
	wantBoth(t, api.Message{Kind: api.MsgAsk, Id: api.Id{Client: 1, Number: 2}}, 7, 2, 0, 0, 0, 1, 0, 0, 0, 2)
	wantBoth(t, api.Message{Kind: api.MsgAnswer, Answer: told}, append([]byte{7, 3}, answer...)...)
	wantBoth(t, api.Message{Kind: api.MsgBusy, Id: api.Id{Client: 1, Number: 2}, Code: 5}, 7, 4, 0, 0, 0, 1, 0, 0, 0, 2, 5)
	wantBoth(t, api.Message{Kind: api.MsgGive, Event: kept}, append([]byte{7, 5}, event...)...)
	wantBoth(t, api.Message{Kind: api.MsgWhat}, 7, 7)
}

// P7.1, P7.2: of each Op each part that it does not use, by itself.
func TestPartsThatAnOpDoesNotUse(t *testing.T) {
	some := fieldsOf(1)
	for op := uint8(api.OpCreate); op <= api.OpBreak; op++ {
		for _, c := range []struct {
			q    api.Request
			what string
			at   int
		}{
			{api.Request{Op: op, Record: 1}, "record", 14}, {api.Request{Op: op, Record: most32}, "record", 14}, {api.Request{Op: op, Version: 1}, "version", 18}, {api.Request{Op: op, Version: most32}, "version", 18},
			{api.Request{Op: op, Ward: 1}, "ward", 22}, {api.Request{Op: op, Ward: most32}, "ward", 22}, {api.Request{Op: op, Owner: 1}, "owner", 26}, {api.Request{Op: op, Owner: most32}, "owner", 26},
			{api.Request{Op: op, Fields: some}, "fields", 30}, {api.Request{Op: op, Reason: "r"}, "reason", 34},
		} {
			if opUses(op, c.what) {
				heldPut(t, c.q)
				continue
			}
			wantPutFaults(t, []badPut{{c.q, c.what, c.at, api.ErrRange}, {api.Event{Request: c.q}, c.what, c.at + 4, api.ErrRange}, {api.Message{Kind: api.MsgRequest, Request: c.q}, c.what, c.at + 1, api.ErrRange}, {api.Message{Kind: api.MsgGive, Event: api.Event{Request: c.q}}, c.what, c.at + 5, api.ErrRange}})
		}
	}
	wantPutFaults(t, []badPut{{api.Request{Op: api.OpSeal, Version: 2}, "version", 18, api.ErrRange}, {api.Request{Op: api.OpSeal, Version: most32}, "version", 18, api.ErrRange}})
	for _, op := range []uint8{0, 8, 9, 128, 255} {
		wantPutFaults(t, []badPut{{api.Request{Op: op}, "op", 13, api.ErrKind}, {api.Request{Op: op, Record: 1, Reason: long(99)}, "op", 13, api.ErrKind}})
	}
}

// create and amend make requests of fields.
func create(l ...api.Field) api.Request { return api.Request{Op: api.OpCreate, Fields: l} }

func amend(l ...api.Field) api.Request { return api.Request{Op: api.OpAmend, Fields: l} }

// P7.1, P7.2: every part of a field wrong by itself, in a request and in an answer; the first field's name lies at 34, and at 22.
func TestFieldsThatAreWrong(t *testing.T) {
	first := api.Field{Name: "m", Kind: api.FieldText, Text: "x"} // 11 bytes
	for _, c := range []struct {
		f    api.Field
		what string
		at   int // behind the fields ahead
		why  error
	}{
		{api.Field{Name: "", Kind: 1}, "name", 0, api.ErrRange}, {api.Field{Name: long(65), Kind: 1}, "name", 0, api.ErrLong},
		{api.Field{Name: "n", Kind: 0}, "kind", 5, api.ErrKind}, {api.Field{Name: "n", Kind: 4}, "kind", 5, api.ErrKind}, {api.Field{Name: "n", Kind: 255}, "kind", 5, api.ErrKind}, {api.Field{Name: "n", Kind: 3}, "kind", 5, api.ErrKind},
		{api.Field{Name: "n", Kind: 1, Text: long(65)}, "text", 6, api.ErrLong}, {api.Field{Name: "n", Kind: 1, Value: 1}, "kind", 5, api.ErrRange}, {api.Field{Name: "n", Kind: 1, Unit: 1}, "kind", 5, api.ErrRange},
		{api.Field{Name: "n", Kind: 1, Value: float(1 << 31)}, "kind", 5, api.ErrRange}, {api.Field{Name: "n", Kind: 1, Value: float(1)}, "kind", 5, api.ErrRange}, {api.Field{Name: "n", Kind: 1, Value: float(0x7fc00000)}, "kind", 5, api.ErrRange},
		{api.Field{Name: "n", Kind: 2, Text: "x", Unit: 1}, "kind", 5, api.ErrRange}, {api.Field{Name: "n", Kind: 2}, "unit", 10, api.ErrRange}, {api.Field{Name: "n", Kind: 2, Unit: 22}, "unit", 10, api.ErrRange}, {api.Field{Name: "n", Kind: 2, Unit: 255}, "unit", 10, api.ErrRange},
		{api.Field{Name: "n", Kind: 2, Value: float(1 << 31), Unit: 1}, "value", 6, api.ErrRange}, {api.Field{Name: "n", Kind: 2, Value: float(0x7f800000), Unit: 1}, "value", 6, api.ErrRange}, {api.Field{Name: "n", Kind: 2, Value: float(0xff800000), Unit: 1}, "value", 6, api.ErrRange},
		{api.Field{Name: "n", Kind: 2, Value: float(0x7fc00000), Unit: 1}, "value", 6, api.ErrRange}, {api.Field{Name: "n", Kind: 2, Value: float(0xffffffff), Unit: 1}, "value", 6, api.ErrRange}, {api.Field{Name: "n", Kind: 2, Value: float(0x7f800001), Unit: 1}, "value", 6, api.ErrRange},
		// in two ways
		{api.Field{Name: "n", Kind: 0, Text: "x"}, "kind", 5, api.ErrKind}, {api.Field{Name: "n", Kind: 4, Unit: 1}, "kind", 5, api.ErrKind}, {api.Field{Name: "n", Kind: 3, Value: 1}, "kind", 5, api.ErrKind},
		// two parts, of which the first is told
		{api.Field{Name: "", Kind: 9}, "name", 0, api.ErrRange}, {api.Field{Name: "n", Kind: 1, Text: long(65), Unit: 1}, "kind", 5, api.ErrRange}, {api.Field{Name: "n", Kind: 2, Text: long(65), Unit: 22}, "kind", 5, api.ErrRange}, {api.Field{Name: "n", Kind: 2, Value: float(1 << 31), Unit: 0}, "value", 6, api.ErrRange},
	} {
		wantPutFaults(t, []badPut{
			{create(c.f), c.what, 34 + c.at, c.why}, {create(first, c.f), c.what, 45 + c.at, c.why}, {api.Event{Request: create(first, c.f)}, c.what, 49 + c.at, c.why},
			{api.Answer{Fields: []api.Field{c.f}}, c.what, 22 + c.at, c.why}, {api.Answer{Fields: []api.Field{first, c.f}}, c.what, 33 + c.at, c.why}, {api.Message{Kind: api.MsgAnswer, Answer: api.Answer{Fields: []api.Field{first, c.f}}}, c.what, 34 + c.at, c.why},
		})
		if c.f.Kind != api.FieldGone {
			wantPutFaults(t, []badPut{{amend(c.f), c.what, 34 + c.at, c.why}, {amend(first, c.f), c.what, 45 + c.at, c.why}})
		}
	}
	wantPutFaults(t, []badPut{
		{amend(api.Field{Name: "n", Kind: 3, Text: "x"}), "kind", 39, api.ErrRange}, {amend(api.Field{Name: "n", Kind: 3, Value: 1}), "kind", 39, api.ErrRange}, {amend(api.Field{Name: "n", Kind: 3, Value: float(1 << 31)}), "kind", 39, api.ErrRange},
		{amend(api.Field{Name: "n", Kind: 3, Unit: 1}), "kind", 39, api.ErrRange},
	})
}

// P7.1, P7.2: names that don't rise, byte by byte; one that is empty or too long besides is told so.
func TestNamesThatDoNotRise(t *testing.T) {
	text := func(name string) api.Field { return api.Field{Name: name, Kind: api.FieldText} }
	for _, c := range []struct {
		ahead, name string
		why         error
	}{
		{"b", "a", api.ErrOrder}, {"b", "b", api.ErrOrder}, {"b", "B", api.ErrOrder}, {"ba", "b", api.ErrOrder}, {"\xff", "\x7f", api.ErrOrder}, {"b", "a" + long(62), api.ErrOrder}, {"ü", "z", api.ErrOrder},
		{"b", "", api.ErrRange}, {"b", "a" + long(64), api.ErrLong}, {"b", "c" + long(64), api.ErrLong}, {long(64), long(65), api.ErrLong}, {long(64), long(64), api.ErrOrder},
		{"b", "ba", nil}, {"b", "b\x00", nil}, {"b", "c", nil}, {"Z", "a", nil}, {"z", "ü", nil}, {"\x7f", "\x80", nil}, {long(63), long(64), nil},
	} {
		ahead, n := text(c.ahead), len(c.ahead)+9
		for _, b := range []badPut{
			{create(ahead, text(c.name)), "name", 34 + n, c.why}, {amend(ahead, text(c.name)), "name", 34 + n, c.why}, {amend(ahead, api.Field{Name: c.name, Kind: api.FieldGone}), "name", 34 + n, c.why},
			{amend(api.Field{Name: c.ahead, Kind: api.FieldGone}, text(c.name)), "name", 30 + n, c.why}, {api.Answer{Fields: []api.Field{ahead, text(c.name)}}, "name", 22 + n, c.why},
		} {
			if c.why != nil {
				wantPutFault(t, b.v, b.what, b.at, b.why)
			} else if !heldPut(t, b.v) {
				t.Errorf("P7.1: %q behind %q is refused", c.name, c.ahead)
			}
		}
	}
	// the name ahead is that of the field just ahead
	wantPutFaults(t, []badPut{{create(text("a"), text("c"), text("b")), "name", 54, api.ErrOrder}, {create(text("b"), text("c"), text("b")), "name", 54, api.ErrOrder}})
}

// P7.1, P7.2: lists of as many as may be, and one more; the count is wrong ahead of what is in the list.
func TestListsThatAreTooLong(t *testing.T) {
	for _, v := range []any{create(fieldsOf(32)...), amend(fieldsOf(32)...), api.Answer{Fields: fieldsOf(32), History: make([]api.Summary, 64)}, proofOf(4096)} {
		if !heldPut(t, v) {
			t.Errorf("P7.1: at a limit: Put%s is refused", thingOf(v).name)
		}
	}
	wantPutFaults(t, []badPut{
		{create(fieldsOf(33)...), "fields", 30, api.ErrLong}, {amend(make([]api.Field, 33)...), "fields", 30, api.ErrLong}, {amend(make([]api.Field, 5000)...), "fields", 30, api.ErrLong},
		{api.Answer{Fields: fieldsOf(33)}, "fields", 18, api.ErrLong}, {api.Answer{Fields: make([]api.Field, 33), History: make([]api.Summary, 65)}, "fields", 18, api.ErrLong}, {api.Answer{History: make([]api.Summary, 65)}, "history", 22, api.ErrLong},
		{proofOf(4097), "hashes", 1, api.ErrLong}, {api.Proof{Hashes: make([][]byte, 100000)}, "hashes", 1, api.ErrLong},
	})
	for _, op := range []uint8{api.OpRead, api.OpRedact, api.OpHistory, api.OpSeal, api.OpBreak} { // wrong in two ways
		wantPutFaults(t, []badPut{{api.Request{Op: op, Fields: fieldsOf(33)}, "fields", 30, api.ErrLong}, {api.Request{Op: op, Fields: fieldsOf(32)}, "fields", 30, api.ErrRange}, {api.Request{Op: op, Fields: make([]api.Field, 1)}, "fields", 30, api.ErrRange}})
	}
	for op := uint8(1); op <= 7; op++ {
		wantPutFaults(t, []badPut{{api.Request{Op: op, Reason: long(65)}, "reason", 34, api.ErrLong}, {api.Request{Op: op, Reason: long(70000)}, "reason", 34, api.ErrLong}})
		if op != api.OpBreak {
			wantPutFaults(t, []badPut{{api.Request{Op: op, Reason: long(64)}, "reason", 34, api.ErrRange}, {api.Request{Op: op, Reason: "\x00"}, "reason", 34, api.ErrRange}})
		}
	}
}

// P7.1, P7.2: codes, hashes and signatures, each wrong by itself; and two parts, of which the first is told.
func TestOtherPartsThatAreWrong(t *testing.T) {
	read := api.Request{Op: api.OpRead}
	for _, code := range []uint8{11, 12, 127, 128, 255} {
		wantPutFaults(t, []badPut{{api.Answer{Code: code}, "code", 9, api.ErrKind}, {api.Event{Request: read, Code: code, Digest: hash(1, 1)}, "code", 42, api.ErrKind}, {api.Message{Kind: api.MsgAnswer, Answer: api.Answer{Code: code}}, "code", 10, api.ErrKind}})
	}
	for _, c := range []struct {
		n   int
		why error
	}{{0, api.ErrRange}, {33, api.ErrLong}, {256, api.ErrLong}} {
		wantPutFaults(t, []badPut{
			{api.Event{Request: read, Digest: hash(1, c.n)}, "digest", 43, c.why}, {api.Message{Kind: api.MsgGive, Event: api.Event{Request: read, Digest: hash(1, c.n)}}, "digest", 44, c.why},
			{api.Head{Root: hash(1, c.n)}, "root", 5, c.why}, {api.Signed{Head: api.Head{Root: hash(1, c.n)}}, "root", 5, c.why}, {api.Signed{Head: api.Head{Root: hash(1, c.n)}, Signature: make([]byte, 40000)}, "root", 5, c.why},
			{api.Proof{Hashes: [][]byte{hash(1, c.n)}}, "hash", 5, c.why}, {api.Proof{Hashes: [][]byte{hash(1, 2), hash(1, c.n), nil}}, "hash", 11, c.why}, {api.Proof{Hashes: append(proofOf(1).Hashes, hash(1, c.n))}, "hash", 10, c.why},
		})
	}
	wantPutFaults(t, []badPut{
		{api.Event{Request: read, Code: 11}, "code", 42, api.ErrKind}, {api.Event{Code: 11}, "op", 17, api.ErrKind}, {api.Event{}, "op", 17, api.ErrKind}, {api.Request{}, "op", 13, api.ErrKind}, {api.Head{}, "root", 5, api.ErrRange}, {api.Signed{}, "root", 5, api.ErrRange},
		{api.Signed{Head: api.Head{Root: hash(1, 1)}, Signature: make([]byte, 32769)}, "signature", 14, api.ErrLong}, {api.Signed{Head: api.Head{Root: hash(1, 32)}, Signature: make([]byte, 32769)}, "signature", 45, api.ErrLong},
		{api.Request{Op: api.OpRead, Ward: 1, Owner: 1}, "ward", 22, api.ErrRange}, {api.Request{Op: api.OpCreate, Record: 1, Fields: make([]api.Field, 40)}, "record", 14, api.ErrRange}, {api.Request{Op: api.OpBreak, Owner: 1, Reason: long(65)}, "owner", 26, api.ErrRange},
	})
}

// beside are the ways to put something into a message, each with the kinds that it belongs to.
func beside() map[string]func(*api.Message) {
	return map[string]func(*api.Message){
		"Request Client": func(m *api.Message) { m.Request.Id.Client++ }, "Request Number": func(m *api.Message) { m.Request.Id.Number++ }, "Request Actor": func(m *api.Message) { m.Request.Actor++ }, "Request Op": func(m *api.Message) { m.Request.Op = api.OpRead },
		"Request Record": func(m *api.Message) { m.Request.Record++ }, "Request Version": func(m *api.Message) { m.Request.Version++ }, "Request Ward": func(m *api.Message) { m.Request.Ward++ }, "Request Owner": func(m *api.Message) { m.Request.Owner++ },
		"Request Fields": func(m *api.Message) { m.Request.Fields = make([]api.Field, 1) }, "Request Reason": func(m *api.Message) { m.Request.Reason = "\x00" },
		"Id Client": func(m *api.Message) { m.Id.Client = most32 }, "Id Number": func(m *api.Message) { m.Id.Number = most32 },
		"Answer Client": func(m *api.Message) { m.Answer.Id.Client++ }, "Answer Number": func(m *api.Message) { m.Answer.Id.Number++ }, "Answer Code": func(m *api.Message) { m.Answer.Code++ }, "Answer Record": func(m *api.Message) { m.Answer.Record++ }, "Answer Version": func(m *api.Message) { m.Answer.Version++ },
		"Answer Fields": func(m *api.Message) { m.Answer.Fields = make([]api.Field, 1) }, "Answer History": func(m *api.Message) { m.Answer.History = make([]api.Summary, 1) },
		"Code": func(m *api.Message) { m.Code = 5 }, "Length": func(m *api.Message) { m.Length = 1 << 31 },
		"Event Place": func(m *api.Message) { m.Event.Place++ }, "Event Request": func(m *api.Message) { m.Event.Request.Op++ }, "Event Request Id": func(m *api.Message) { m.Event.Request.Id.Number++ }, "Event Request Fields": func(m *api.Message) { m.Event.Request.Fields = make([]api.Field, 1) },
		"Event Code": func(m *api.Message) { m.Event.Code++ }, "Event Digest": func(m *api.Message) { m.Event.Digest = make([]byte, 1) },
	}
}

// P7.2: whatever a message has beside its kind's parts makes its kind wrong, with ErrRange; a kind that is none of api's, with ErrKind, whatever it has.
func TestWhatAMessageHasBesideItsParts(t *testing.T) {
	id := api.Id{Client: 1, Number: 2}
	request := api.Request{Id: id, Op: api.OpCreate}
	own := map[uint8][]string{api.MsgRequest: {"Request"}, api.MsgAsk: {"Id"}, api.MsgAnswer: {"Answer"}, api.MsgBusy: {"Id", "Code"}, api.MsgGive: {"Event"}, api.MsgHave: {"Length"}}
	for _, m := range []api.Message{{Kind: api.MsgRequest, Request: request}, {Kind: api.MsgAsk, Id: id}, {Kind: api.MsgAnswer, Answer: api.Answer{Id: id}}, {Kind: api.MsgBusy, Id: id, Code: 1}, {Kind: api.MsgGive, Event: api.Event{Request: request, Digest: hash(1, 1)}}, {Kind: api.MsgHave, Length: 1}, {Kind: api.MsgWhat}} {
		mustPut(t, m)
		for name, turn := range beside() {
			turned := m
			turn(&turned)
			belongs := false
			for _, part := range own[m.Kind] {
				belongs = belongs || name == part || len(name) > len(part) && name[:len(part)+1] == part+" "
			}
			if belongs {
				heldPut(t, turned)
				continue
			}
			wantPutFault(t, turned, "kind", 1, api.ErrRange)
			turned.Request.Op, turned.Answer.Code = 99, 99 // and a part behind the kind
			wantPutFault(t, turned, "kind", 1, api.ErrRange)
			for _, kind := range []uint8{0, 8, 9, 255} {
				turned.Kind = kind
				wantPutFault(t, turned, "kind", 1, api.ErrKind)
			}
		}
	}
	for _, kind := range []uint8{0, 8, 9, 128, 255} {
		wantPutFaults(t, []badPut{{api.Message{Kind: kind}, "kind", 1, api.ErrKind}})
	}
}

// P7.1: a Busy's code is from 1 to 15.
func TestBusyCodes(t *testing.T) {
	id := api.Id{Client: 1, Number: 2}
	for code := range 256 {
		m := api.Message{Kind: api.MsgBusy, Id: id, Code: uint8(code)}
		if code >= 1 && code <= 15 {
			wantBoth(t, m, 7, 4, 0, 0, 0, 1, 0, 0, 0, 2, byte(code))
		} else {
			wantPutFault(t, m, "busy", 10, api.ErrRange)
			wantGetFault(t, 7, []byte{7, 4, 0, 0, 0, 1, 0, 0, 0, 2, byte(code)}, "busy", 10, api.ErrRange)
		}
	}
}
