package record_test

import (
	"math"
	"slices"
	"strings"
	"testing"

	"almoner/api"
	"almoner/record"
)

const most32 = math.MaxUint32

// people are the staff of the chapter's examples.
var people = []api.Staff{
	{Actor: 1, Role: api.RoleClerk, Ward: 7},
	{Actor: 2, Role: api.RoleNurse, Ward: 7},
	{Actor: 3, Role: api.RoleDoctor, Ward: 7},
	{Actor: 4, Role: api.RoleDoctor, Ward: 8},
	{Actor: 5, Role: api.RoleAuditor},
	{Actor: 6, Role: api.RolePatient},
}

func text(name, s string) api.Field {
	return api.Field{Name: name, Kind: api.FieldText, Text: s}
}

func quantity(name string, x float32, unit uint8) api.Field {
	return api.Field{Name: name, Kind: api.FieldQuantity, Value: x, Unit: unit}
}

func gone(name string) api.Field {
	return api.Field{Name: name, Kind: api.FieldGone}
}

// many tells so many texts, whose names rise and begin so.
func many(n int, begin string) []api.Field {
	var l []api.Field
	for i := range n {
		l = append(l, text(begin+string(rune('A'+i/26))+string(rune('a'+i%26)), "x"))
	}
	return l
}

// list is how a test writes fields.
func list(l ...api.Field) []api.Field { return l }

func create(actor uint32, fields ...api.Field) api.Request {
	return api.Request{Actor: actor, Op: api.OpCreate, Ward: 7, Owner: 6, Fields: fields}
}

func amend(actor, number, version uint32, fields ...api.Field) api.Request {
	return api.Request{Actor: actor, Op: api.OpAmend, Record: number, Version: version, Fields: fields}
}

func read(actor, number, version uint32) api.Request {
	return api.Request{Actor: actor, Op: api.OpRead, Record: number, Version: version}
}

func redact(actor, number, version uint32) api.Request {
	return api.Request{Actor: actor, Op: api.OpRedact, Record: number, Version: version}
}

func history(actor, number uint32) api.Request {
	return api.Request{Actor: actor, Op: api.OpHistory, Record: number}
}

func seal(actor, number uint32) api.Request {
	return api.Request{Actor: actor, Op: api.OpSeal, Record: number, Version: 1}
}

func unseal(actor, number uint32) api.Request {
	return api.Request{Actor: actor, Op: api.OpSeal, Record: number}
}

func breakSeal(actor, number uint32, reason string) api.Request {
	return api.Request{Actor: actor, Op: api.OpBreak, Record: number, Reason: reason}
}

// sameFields holds values against each other by their bits, and nil and an empty list as one.
func sameFields(a, b []api.Field) bool {
	return slices.EqualFunc(a, b, func(f, g api.Field) bool {
		return f.Name == g.Name && f.Kind == g.Kind && f.Text == g.Text && f.Unit == g.Unit && math.Float32bits(f.Value) == math.Float32bits(g.Value)
	})
}

func same(a, b api.Answer) bool {
	return a.Id == b.Id && a.Code == b.Code && a.Record == b.Record && a.Version == b.Version && sameFields(a.Fields, b.Fields) && slices.Equal(a.History, b.History)
}

func sameAll(a, b []api.Answer) bool { return slices.EqualFunc(a, b, same) }

// run is a state, the words beside it, and the place that comes next. Places and ids are not those of its requests' order, so that one is not taken for another.
type run struct {
	t     *testing.T
	s     *record.State
	p     *plain
	place uint32
}

func begin(t *testing.T, staff []api.Staff) *run {
	return &run{t: t, s: record.New(staff), p: &plain{staff: staff}, place: 1000}
}

// do does a request, holds the answer against the words, and tells it.
func (u *run) do(r api.Request) api.Answer {
	u.t.Helper()
	u.place += 3
	r.Id = api.Id{Client: u.place ^ 5, Number: u.place + 77}
	got, want := u.s.Apply(r, u.place), u.p.apply(r, u.place)
	if !same(got, want) {
		u.t.Errorf("P11.2: Apply(%+v): %+v, want %+v", r, got, want)
	}
	if u.s.Records() != len(u.p.records) {
		u.t.Errorf("P11.1: %d records behind %+v, want %d", u.s.Records(), r, len(u.p.records))
	}
	return got
}

// must does requests that are to be done.
func (u *run) must(l ...api.Request) {
	u.t.Helper()
	for _, r := range l {
		if a := u.do(r); a.Code != api.Done {
			u.t.Fatalf("P11.2: %+v is refused: %d", r, a.Code)
		}
	}
}

// refuses asks for a refusal that tells nothing else, and leaves all as it was.
func (u *run) refuses(code uint8, r api.Request) {
	u.t.Helper()
	was := look(u.s, u.p.staff)
	a := u.do(r)
	if a.Code != code || !same(a, api.Answer{Id: a.Id, Code: a.Code}) {
		u.t.Errorf("P11.2: Apply(%+v): %+v, want the code %d alone", r, a, code)
	}
	if !sameAll(look(u.s, u.p.staff), was) {
		u.t.Errorf("P11.2: %+v is refused and changes something", r)
	}
}

// tells asks for the fields of a version; 0: of the last one, which is told by its number.
func (u *run) tells(actor, number, version uint32, fields ...api.Field) {
	u.t.Helper()
	a := u.do(read(actor, number, version))
	if version == 0 {
		version = uint32(len(u.p.records[number-1].versions))
	}
	if !same(a, api.Answer{Id: a.Id, Record: number, Version: version, Fields: fields}) {
		u.t.Errorf("P11.2: %d reads version %d of record %d: %+v, want the fields %+v", actor, version, number, a, fields)
	}
}

// look tells all that can be seen of a state, by everybody.
func look(s *record.State, staff []api.Staff) []api.Answer {
	var l []api.Answer
	for number := range uint32(s.Records()) {
		for _, p := range staff {
			h := s.Apply(history(p.Actor, number+1), 0)
			l = append(l, h, s.Apply(amend(p.Actor, number+1, 0), 0))
			for version := range uint32(len(h.History) + 1) {
				l = append(l, s.Apply(read(p.Actor, number+1, version), 0))
			}
		}
	}
	return l
}

// long tells a text of so many bytes.
func long(n int) string { return strings.Repeat("m", n) }

// float tells the value of those bits.
func float(bits uint32) float32 { return math.Float32frombits(bits) }
