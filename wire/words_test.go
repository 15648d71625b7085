package wire_test

import (
	"encoding/binary"
	"math"
	"slices"

	"almoner/api"
)

// The chapter's words, read plainly, once for telling and once for reading: what the package is held against.

// row is one part: its bytes, and all the ways in which it is wrong.
type row struct {
	name  string
	bytes []byte
	wrong []error
}

// worst tells the one of several reasons that is told.
func worst(wrong []error) error {
	for _, why := range []error{api.ErrLong, api.ErrKind, api.ErrRange, api.ErrOrder} {
		if slices.Contains(wrong, why) {
			return why
		}
	}
	return nil
}

// laid tells the rows' bytes, or the fault at the first row that is wrong.
func laid(rows []row) ([]byte, *api.Fault) {
	var b []byte
	for _, r := range rows {
		if why := worst(r.wrong); why != nil {
			return nil, &api.Fault{What: r.name, At: len(b), Err: why}
		}
		b = append(b, r.bytes...)
	}
	return b, nil
}

// reasons tells which of the reasons hold.
func reasons(if1 bool, why1 error, more ...any) (wrong []error) {
	more = append([]any{if1, why1}, more...)
	for i := 0; i < len(more); i += 2 {
		if more[i].(bool) {
			wrong = append(wrong, more[i+1].(error))
		}
	}
	return wrong
}

func four[T uint32 | int](v T) []byte { return binary.BigEndian.AppendUint32(nil, uint32(v)) }

func row32(name string, v uint32, wrong ...error) row { return row{name, four(v), wrong} }

func row8(name string, v uint8, wrong ...error) row { return row{name, []byte{v}, wrong} }

func rowText(name, s string, wrong ...error) row {
	return row{name, append(four(len(s)), s...), wrong}
}

// opUses tells of an Op which of the parts it uses, by chapter 11's words.
func opUses(op uint8, part string) bool {
	used := map[uint8][]string{
		api.OpCreate: {"ward", "owner", "fields"}, api.OpAmend: {"record", "version", "fields"}, api.OpRead: {"record", "version"},
		api.OpRedact: {"record", "version"}, api.OpHistory: {"record"}, api.OpSeal: {"record", "version"}, api.OpBreak: {"record", "reason"},
	}
	return slices.Contains(used[op], part)
}

func fieldKindWrong(kind uint8, op uint8) bool {
	return kind != api.FieldText && kind != api.FieldQuantity && !(kind == api.FieldGone && op == api.OpAmend)
}

func noQuantity(bits uint32) bool {
	f := float64(math.Float32frombits(bits))
	return math.IsNaN(f) || math.IsInf(f, 0) || f == 0 && math.Signbit(f)
}

func rowsOfFields(l []api.Field, op uint8, more ...error) []row {
	rows := []row{{"fields", four(len(l)), append(more, reasons(len(l) > api.MaxFields, api.ErrLong)...)}}
	for i, f := range l {
		late := i > 0 && f.Name <= l[i-1].Name
		rows = append(rows, rowText("name", f.Name, reasons(late, api.ErrOrder, f.Name == "", api.ErrRange, len(f.Name) > api.MaxText, api.ErrLong)...))
		beside := false
		bits := math.Float32bits(f.Value)
		if f.Kind != api.FieldText {
			beside = beside || f.Text != ""
		}
		if f.Kind != api.FieldQuantity {
			beside = beside || bits != 0 || f.Unit != 0
		}
		rows = append(rows, row8("kind", f.Kind, reasons(beside, api.ErrRange, fieldKindWrong(f.Kind, op), api.ErrKind)...))
		if f.Kind == api.FieldText {
			rows = append(rows, rowText("text", f.Text, reasons(len(f.Text) > api.MaxText, api.ErrLong)...))
		}
		if f.Kind == api.FieldQuantity {
			rows = append(rows, row32("value", bits, reasons(noQuantity(bits), api.ErrRange)...), row8("unit", f.Unit, reasons(f.Unit < 1 || f.Unit > 21, api.ErrRange)...))
		}
	}
	return rows
}

func rowsOfRequest(q api.Request) []row {
	used := func(part string, v uint32) row {
		bad := v != 0 && !opUses(q.Op, part) || part == "version" && q.Op == api.OpSeal && v > 1
		return row32(part, v, reasons(bad, api.ErrRange)...)
	}
	rows := []row{row32("client", q.Id.Client), row32("number", q.Id.Number), row32("actor", q.Actor), row8("op", q.Op, reasons(q.Op < 1 || q.Op > 7, api.ErrKind)...),
		used("record", q.Record), used("version", q.Version), used("ward", q.Ward), used("owner", q.Owner)}
	rows = append(rows, rowsOfFields(q.Fields, q.Op, reasons(len(q.Fields) > 0 && !opUses(q.Op, "fields"), api.ErrRange)...)...)
	return append(rows, rowText("reason", q.Reason, reasons(q.Reason != "" && q.Op != api.OpBreak, api.ErrRange, len(q.Reason) > api.MaxText, api.ErrLong)...))
}

func rowOfCode(code uint8) row { return row8("code", code, reasons(code > 10, api.ErrKind)...) }

func rowsOfAnswer(a api.Answer) []row {
	rows := []row{row32("client", a.Id.Client), row32("number", a.Id.Number), rowOfCode(a.Code), row32("record", a.Record), row32("version", a.Version)}
	rows = append(rows, rowsOfFields(a.Fields, api.OpRead)...)
	rows = append(rows, row{"history", four(len(a.History)), reasons(len(a.History) > api.MaxVersions, api.ErrLong)})
	for _, s := range a.History {
		gone := uint8(0)
		if s.Redacted {
			gone = 1
		}
		rows = append(rows, row32("author", s.Author), row32("event", s.Event), row32("many", s.Fields), row8("gone", gone))
	}
	return rows
}

func rowOfHash(name string, h []byte) row {
	return rowText(name, string(h), reasons(len(h) == 0, api.ErrRange, len(h) > 32, api.ErrLong)...)
}

func rowsOfEvent(e api.Event) []row {
	rows := append([]row{row32("place", e.Place)}, rowsOfRequest(e.Request)...)
	return append(rows, rowOfCode(e.Code), rowOfHash("digest", e.Digest))
}

func rowsOfMessage(m api.Message) []row {
	parts := map[uint8][]row{
		api.MsgRequest: rowsOfRequest(m.Request), api.MsgAsk: {row32("client", m.Id.Client), row32("number", m.Id.Number)}, api.MsgAnswer: rowsOfAnswer(m.Answer),
		api.MsgBusy: {row32("client", m.Id.Client), row32("number", m.Id.Number), row8("busy", m.Code, reasons(m.Code < 1 || m.Code > 15, api.ErrRange)...)},
		api.MsgGive: rowsOfEvent(m.Event), api.MsgHave: {row32("length", m.Length)}, api.MsgWhat: {},
	}
	rest := m
	rest.Kind = 0
	switch m.Kind {
	case api.MsgRequest:
		rest.Request = api.Request{}
	case api.MsgAsk:
		rest.Id = api.Id{}
	case api.MsgAnswer:
		rest.Answer = api.Answer{}
	case api.MsgBusy:
		rest.Id, rest.Code = api.Id{}, 0
	case api.MsgGive:
		rest.Event = api.Event{}
	case api.MsgHave:
		rest.Length = 0
	}
	_, known := parts[m.Kind]
	return append([]row{row8("kind", m.Kind, reasons(!known, api.ErrKind, !same(rest, api.Message{}), api.ErrRange)...)}, parts[m.Kind]...)
}

// rowsOf tells a thing's parts, its form first.
func rowsOf(v any) []row {
	form := func(n uint8, rows ...row) []row { return append([]row{row8("form", n)}, rows...) }
	switch v := v.(type) {
	case api.Request:
		return form(1, rowsOfRequest(v)...)
	case api.Answer:
		return form(2, rowsOfAnswer(v)...)
	case api.Event:
		return form(3, rowsOfEvent(v)...)
	case api.Head:
		return form(4, row32("size", v.Size), rowOfHash("root", v.Root))
	case api.Signed:
		return form(5, row32("size", v.Head.Size), rowOfHash("root", v.Head.Root), row32("key", v.Key), rowText("signature", string(v.Signature), reasons(len(v.Signature) > 32768, api.ErrLong)...))
	case api.Proof:
		rows := []row{{"hashes", four(len(v.Hashes)), reasons(len(v.Hashes) > 4096, api.ErrLong)}}
		for _, h := range v.Hashes {
			rows = append(rows, rowOfHash("hash", h))
		}
		return form(6, rows...)
	case api.Message:
		return form(7, rowsOfMessage(v)...)
	}
	panic("no thing")
}

// scan goes through bytes; a fault ends it by a panic.
type scan struct {
	b  []byte
	at int
}

// take reads n bytes of the part that began at that place.
func (s *scan) take(name string, begin, n int) []byte {
	if len(s.b)-s.at < n {
		panic(&api.Fault{What: name, At: begin, Err: api.ErrShort})
	}
	s.at += n
	return s.b[s.at-n : s.at]
}

// refuse ends the reading, if one of the reasons holds.
func (s *scan) refuse(name string, begin int, wrong []error) {
	if why := worst(wrong); why != nil {
		panic(&api.Fault{What: name, At: begin, Err: why})
	}
}

func (s *scan) u8(name string, wrong func(v uint8) []error) uint8 {
	begin := s.at
	v := s.take(name, begin, 1)[0]
	s.refuse(name, begin, wrong(v))
	return v
}

func (s *scan) u32(name string, wrong func(v uint32) []error) uint32 {
	begin := s.at
	v := binary.BigEndian.Uint32(s.take(name, begin, 4))
	s.refuse(name, begin, wrong(v))
	return v
}

func (s *scan) text(name string, most uint32, wrong func(v string) []error) string {
	begin := s.at
	n := binary.BigEndian.Uint32(s.take(name, begin, 4))
	s.refuse(name, begin, reasons(n > most, api.ErrLong))
	v := string(s.take(name, begin, int(n)))
	s.refuse(name, begin, wrong(v))
	return v
}

func fine[T any](T) []error { return nil }

func ifTooFew(v string) []error { return reasons(v == "", api.ErrRange) }

func (s *scan) fields(op uint8, unused bool) (l []api.Field) {
	n := s.u32("fields", func(v uint32) []error { return reasons(v > 32, api.ErrLong, unused && v > 0, api.ErrRange) })
	for i := range n {
		var f api.Field
		f.Name = s.text("name", 64, func(v string) []error { return reasons(v == "", api.ErrRange, i > 0 && v <= l[i-1].Name, api.ErrOrder) })
		f.Kind = s.u8("kind", func(v uint8) []error { return reasons(fieldKindWrong(v, op), api.ErrKind) })
		if f.Kind == api.FieldText {
			f.Text = s.text("text", 64, fine)
		}
		if f.Kind == api.FieldQuantity {
			f.Value = math.Float32frombits(s.u32("value", func(v uint32) []error { return reasons(noQuantity(v), api.ErrRange) }))
			f.Unit = s.u8("unit", func(v uint8) []error { return reasons(v < 1 || v > 21, api.ErrRange) })
		}
		l = append(l, f)
	}
	return l
}

func (s *scan) id() api.Id {
	return api.Id{Client: s.u32("client", fine), Number: s.u32("number", fine)}
}

func (s *scan) request() (q api.Request) {
	q.Id = s.id()
	q.Actor = s.u32("actor", fine)
	q.Op = s.u8("op", func(v uint8) []error { return reasons(v == 0 || v > 7, api.ErrKind) })
	used := func(part string) uint32 {
		return s.u32(part, func(v uint32) []error {
			return reasons(v > 0 && !opUses(q.Op, part), api.ErrRange, q.Op == api.OpSeal && part == "version" && v > 1, api.ErrRange)
		})
	}
	q.Record = used("record")
	q.Version = used("version")
	q.Ward = used("ward")
	q.Owner = used("owner")
	q.Fields = s.fields(q.Op, !opUses(q.Op, "fields"))
	q.Reason = s.text("reason", 64, func(v string) []error { return reasons(v != "" && q.Op != api.OpBreak, api.ErrRange) })
	return q
}

func (s *scan) code() uint8 {
	return s.u8("code", func(v uint8) []error { return reasons(v > 10, api.ErrKind) })
}

func (s *scan) answer() (a api.Answer) {
	a.Id = s.id()
	a.Code = s.code()
	a.Record = s.u32("record", fine)
	a.Version = s.u32("version", fine)
	a.Fields = s.fields(api.OpRead, false)
	n := s.u32("history", func(v uint32) []error { return reasons(v > 64, api.ErrLong) })
	for range n {
		h := api.Summary{Author: s.u32("author", fine), Event: s.u32("event", fine), Fields: s.u32("many", fine)}
		h.Redacted = s.u8("gone", func(v uint8) []error { return reasons(v > 1, api.ErrRange) }) == 1
		a.History = append(a.History, h)
	}
	return a
}

func (s *scan) event() (e api.Event) {
	e.Place = s.u32("place", fine)
	e.Request = s.request()
	e.Code = s.code()
	e.Digest = []byte(s.text("digest", 32, ifTooFew))
	return e
}

func (s *scan) head() api.Head {
	return api.Head{Size: s.u32("size", fine), Root: []byte(s.text("root", 32, ifTooFew))}
}

func (s *scan) message() (m api.Message) {
	m.Kind = s.u8("kind", func(v uint8) []error { return reasons(v == 0 || v > 7, api.ErrKind) })
	switch m.Kind {
	case api.MsgRequest:
		m.Request = s.request()
	case api.MsgAsk:
		m.Id = s.id()
	case api.MsgAnswer:
		m.Answer = s.answer()
	case api.MsgBusy:
		m.Id = s.id()
		m.Code = s.u8("busy", func(v uint8) []error { return reasons(v == 0 || v > 15, api.ErrRange) })
	case api.MsgGive:
		m.Event = s.event()
	case api.MsgHave:
		m.Length = s.u32("length", fine)
	}
	return m
}

// scanned reads the thing of that form; beside a fault it is of no use.
func scanned(form uint8, b []byte) (v any, fault *api.Fault) {
	defer func() {
		if f, ok := recover().(*api.Fault); ok {
			fault = f
		}
	}()
	s := &scan{b: b}
	s.u8("form", func(n uint8) []error { return reasons(n != form, api.ErrKind) })
	switch form {
	case 1:
		v = s.request()
	case 2:
		v = s.answer()
	case 3:
		v = s.event()
	case 4:
		v = s.head()
	case 5:
		v = api.Signed{Head: s.head(), Key: s.u32("key", fine), Signature: []byte(s.text("signature", 32768, fine))}
	case 6:
		var p api.Proof
		for range s.u32("hashes", func(v uint32) []error { return reasons(v > 4096, api.ErrLong) }) {
			p.Hashes = append(p.Hashes, []byte(s.text("hash", 32, ifTooFew)))
		}
		v = p
	case 7:
		v = s.message()
	}
	if s.at < len(b) {
		return nil, &api.Fault{What: "end", At: s.at, Err: api.ErrTrailing}
	}
	return v, nil
}

// formed tells whether a request has a form, by chapter 11's words.
func formed(q api.Request) bool {
	rest := q
	rest.Id, rest.Actor, rest.Op = api.Id{}, 0, 0
	fields := false
	switch q.Op {
	case api.OpCreate:
		rest.Ward, rest.Owner, rest.Fields, fields = 0, 0, nil, true
	case api.OpAmend:
		rest.Record, rest.Version, rest.Fields, fields = 0, 0, nil, true
	case api.OpRead, api.OpRedact:
		rest.Record, rest.Version = 0, 0
	case api.OpHistory:
		rest.Record = 0
	case api.OpSeal:
		if q.Version > 1 {
			return false
		}
		rest.Record, rest.Version = 0, 0
	case api.OpBreak:
		if len(q.Reason) > 64 {
			return false
		}
		rest.Record, rest.Reason = 0, ""
	default:
		return false
	}
	return same(rest, api.Request{}) && (!fields || formedFields(q.Fields, q.Op == api.OpAmend))
}

func formedFields(l []api.Field, gone bool) bool {
	for i, f := range l {
		bare := f
		bare.Name, bare.Kind = "", 0
		switch {
		case f.Kind == api.FieldText && len(f.Text) <= 64:
			bare.Text = ""
		case f.Kind == api.FieldQuantity && !noQuantity(math.Float32bits(f.Value)) && f.Unit >= 1 && f.Unit <= 21:
			bare.Value, bare.Unit = 0, 0
		case f.Kind == api.FieldGone && gone:
		default:
			return false
		}
		if !same(bare, api.Field{}) || f.Name == "" || len(f.Name) > 64 || i > 0 && l[i-1].Name >= f.Name {
			return false
		}
	}
	return len(l) <= 32
}
