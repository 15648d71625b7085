package audit_test

import (
	"bytes"
	"math"
	"math/rand"
	"slices"
	"testing"

	"almoner/api"
	"almoner/audit"
	"almoner/record"
)

const most32 = math.MaxUint32

// people are the staff of chapter 10's examples.
var people = []api.Staff{
	{Actor: 1, Role: api.RoleClerk, Ward: 7},
	{Actor: 2, Role: api.RoleNurse, Ward: 7},
	{Actor: 3, Role: api.RoleDoctor, Ward: 7},
	{Actor: 4, Role: api.RoleDoctor, Ward: 8},
	{Actor: 5, Role: api.RoleAuditor},
	{Actor: 6, Role: api.RolePatient},
}

func text(name, s string) api.Field {
	return api.Field{Name: name, Kind: api.FieldText, Text: s}
}

func quantity(name string, x float32, unit uint8) api.Field {
	return api.Field{Name: name, Kind: api.FieldQuantity, Value: x, Unit: unit}
}

// temp is q of chapter 11's example.
func temp(x float32) api.Field { return quantity("temp", x, 11) }

// float tells the value of those bits.
func float(bits uint32) float32 { return math.Float32frombits(bits) }

func create(actor uint32, fields ...api.Field) api.Request {
	return api.Request{Actor: actor, Op: api.OpCreate, Ward: 7, Owner: 6, Fields: fields}
}

func amend(actor, number, version uint32, fields ...api.Field) api.Request {
	return api.Request{Actor: actor, Op: api.OpAmend, Record: number, Version: version, Fields: fields}
}

func read(actor, number, version uint32) api.Request {
	return api.Request{Actor: actor, Op: api.OpRead, Record: number, Version: version}
}

func redact(actor, number, version uint32) api.Request {
	return api.Request{Actor: actor, Op: api.OpRedact, Record: number, Version: version}
}

func history(actor, number uint32) api.Request {
	return api.Request{Actor: actor, Op: api.OpHistory, Record: number}
}

func seal(actor, number, how uint32) api.Request {
	return api.Request{Actor: actor, Op: api.OpSeal, Record: number, Version: how}
}

func breakSeal(actor, number uint32, reason string) api.Request {
	return api.Request{Actor: actor, Op: api.OpBreak, Record: number, Reason: reason}
}

// story is the requests of chapter 11's example, in the order of its rows.
func story() []api.Request {
	return []api.Request{
		create(1, text("name", "Ada")),
		amend(2, 1, 1, temp(37)),
		amend(1, 1, 2, temp(38)),
		amend(3, 1, 1, temp(39)),
		amend(3, 1, 2, api.Field{Name: "name", Kind: api.FieldGone}, temp(39)),
		read(6, 1, 0),
		read(6, 1, 2),
		read(6, 1, 9),
		seal(6, 1, 1),
		read(2, 1, 0),
		breakSeal(4, 1, "heart"),
		read(4, 1, 1),
		seal(6, 1, 1),
		read(4, 1, 0),
		redact(3, 1, 1),
		read(3, 1, 1),
		history(5, 1),
		amend(3, 1, 3, quantity("temp", 5, 8)),
		read(9, 1, 0),
		read(3, 2, 0),
	}
}

// more is requests of all operations, done and refused, of several records: named ahead of their making, behind it, and never made.
func more() []api.Request {
	l := []api.Request{
		read(3, 2, 0), create(9), create(4), create(2, quantity("mass", 70, 4), temp(36.5)), create(3, text("temp", "warm")),
		read(3, 0, 0), amend(2, 1, 1, quantity("mass", 154, 5)), amend(3, 2, 1, quantity("temp", 98.6, 12)), history(5, 2), seal(6, 2, 1), read(2, 2, 0),
		redact(6, 1, 1), read(6, 1, 1), breakSeal(1, 2, "x"), breakSeal(4, 2, ""), breakSeal(4, 2, "y"), amend(4, 2, 2, temp(40)), seal(6, 2, 0), read(4, 2, 0), history(6, 1),
		amend(most32, most32, most32), create(1, temp(35)), amend(3, 3, 1, quantity("temp", 300, 13), quantity("tempo", 60, 18)), read(6, 3, 0),
	}
	for i := range l {
		l[i].Id = api.Id{Client: uint32(i % 3), Number: uint32(i)}
	}
	return l
}

// logOf tells the events of requests, done one after the other.
func logOf(t testing.TB, width int, l []api.Request) []api.Event {
	t.Helper()
	var log []api.Event
	for i, a := range record.Answers(people, l) {
		e, errno := record.Event(width, uint32(i), l[i], a)
		if errno != api.OK {
			t.Fatalf("record.Event of %+v: %d", l[i], errno)
		}
		log = append(log, e)
	}
	return log
}

// event tells one that nobody need have made, of a code.
func event(code uint8, r api.Request) api.Event {
	return api.Event{Request: r, Code: code}
}

// placed tells events with places from 0 on.
func placed(l ...api.Event) []api.Event {
	for i := range l {
		l[i].Place = uint32(i)
	}
	return l
}

// of tells a request of an Op.
func of(op uint8, actor, number uint32, fields ...api.Field) api.Request {
	return api.Request{Actor: actor, Op: op, Record: number, Fields: fields}
}

// copied tells a log with nothing in common.
func copied(log []api.Event) []api.Event {
	log = slices.Clone(log)
	for i, e := range log {
		log[i].Request.Fields, log[i].Digest = slices.Clone(e.Request.Fields), bytes.Clone(e.Digest)
	}
	return log
}

func oneOf[T any](r *rand.Rand, l ...T) T { return l[r.Intn(len(l))] }

// sameFields holds values against each other by their bits, and nil and an empty list as one.
func sameFields(a, b []api.Field) bool {
	return slices.EqualFunc(a, b, func(f, g api.Field) bool {
		return f.Name == g.Name && f.Kind == g.Kind && f.Text == g.Text && f.Unit == g.Unit && math.Float32bits(f.Value) == math.Float32bits(g.Value)
	})
}

func sameAnswer(a, b api.Answer) bool {
	return a.Id == b.Id && a.Code == b.Code && a.Record == b.Record && a.Version == b.Version && sameFields(a.Fields, b.Fields) && slices.Equal(a.History, b.History)
}

func sameAnswers(a, b []api.Answer) bool { return slices.EqualFunc(a, b, sameAnswer) }

func samePoints(a, b []audit.Point) bool {
	return slices.EqualFunc(a, b, func(p, q audit.Point) bool {
		return p.Place == q.Place && math.Float32bits(p.Value) == math.Float32bits(q.Value)
	})
}

// access asks for what Access tells.
func access(t testing.TB, what string, log []api.Event, want ...audit.Line) {
	t.Helper()
	if l := audit.Access(log); !slices.Equal(l, want) {
		t.Errorf("P20.1: %s: Access:\n%+v, want\n%+v", what, l, want)
	}
}

// trail asks for what Trail tells.
func trail(t testing.TB, what string, log []api.Event, number uint32, want ...uint32) {
	t.Helper()
	if l := audit.Trail(log, number); !slices.Equal(l, want) {
		t.Errorf("P20.2: %s: Trail of %d: %d, want %d", what, number, l, want)
	}
}

// series asks for the points that Series tells.
func series(t testing.TB, what string, log []api.Event, number uint32, field string, unit uint8, want ...audit.Point) {
	t.Helper()
	if l, e := audit.Series(log, number, field, unit); e != api.OK || !samePoints(l, want) {
		t.Errorf("P20.3: %s: Series of %d, %q, the unit %d: %v, %d, want %v", what, number, field, unit, l, e, want)
	}
}

// noSeries asks for an error of Series, and nothing beside it.
func noSeries(t testing.TB, what string, log []api.Event, number uint32, field string, unit uint8, want api.Errno) {
	t.Helper()
	if l, e := audit.Series(log, number, field, unit); e != want || len(l) != 0 {
		t.Errorf("P20.3: %s: Series of %d, %q, the unit %d: %v, %d, want the error %d alone", what, number, field, unit, l, e, want)
	}
}

// replay asks for the first event that is not right; the answers are always the model's.
func replay(t testing.TB, what string, width int, staff []api.Staff, log []api.Event, want int) {
	t.Helper()
	var requests []api.Request
	for _, e := range log {
		requests = append(requests, e.Request)
	}
	answers, bad := audit.Replay(width, staff, log)
	if bad != want {
		t.Errorf("P20.4: %s: Replay with the width %d: bad is %d, want %d", what, width, bad, want)
	}
	if l := record.Answers(staff, requests); !sameAnswers(answers, l) {
		t.Errorf("P20.4: %s: Replay with the width %d:\n%+v, want\n%+v", what, width, answers, l)
	}
}

// report asks for what Report tells.
func report(t testing.TB, what string, log []api.Event, want string) {
	t.Helper()
	if s := audit.Report(log); s != want {
		t.Errorf("P20.5: %s: Report: %q, want %q", what, s, want)
	}
}
