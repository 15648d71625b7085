package session_test

import (
	"fmt"
	"math"
	"slices"
	"strings"
	"testing"

	"almoner/api"
	"almoner/session"
)

const most32 = math.MaxUint32

// made tells a new session of a client.
func made(t testing.TB, client uint32) *session.Session {
	t.Helper()
	s, e := session.New(client)
	if s == nil || e != api.OK {
		t.Fatalf("P17.1: New(%d): %v, %d", client, s, e)
	}
	return s
}

// standing tells a session that has called so many.
func standing(t testing.TB, client uint32, calls int) *session.Session {
	t.Helper()
	s := made(t, client)
	for i := range calls {
		gets(t, s, creates(), id(client, uint32(i+1)))
	}
	return s
}

func id(client, number uint32) api.Id { return api.Id{Client: client, Number: number} }

// ids tells those of a client.
func ids(client uint32, numbers ...uint32) []api.Id {
	var l []api.Id
	for _, n := range numbers {
		l = append(l, id(client, n))
	}
	return l
}

func text(name, s string) api.Field { return api.Field{Name: name, Kind: api.FieldText, Text: s} }

func quantity(name string, x float32, unit uint8) api.Field {
	return api.Field{Name: name, Kind: api.FieldQuantity, Value: x, Unit: unit}
}

func gone(name string) api.Field { return api.Field{Name: name, Kind: api.FieldGone} }

// creates is R of the examples.
func creates() api.Request {
	return api.Request{Actor: 1, Op: api.OpCreate, Ward: 7, Owner: 6, Fields: []api.Field{text("name", "Ada"), quantity("temp", 37, 11)}}
}

func reads(number uint32) api.Request {
	return api.Request{Actor: 2, Op: api.OpRead, Record: number}
}

// answer is a message with one that was done.
func answer(of api.Id, number uint32) api.Message {
	return api.Message{Kind: api.MsgAnswer, Answer: api.Answer{Id: of, Record: number, Version: 1}}
}

func busy(of api.Id, why api.Errno) api.Message {
	return api.Message{Kind: api.MsgBusy, Id: of, Code: uint8(why)}
}

// gets asks for the id of a request.
func gets(t testing.TB, s *session.Session, r api.Request, want api.Id) {
	t.Helper()
	if got, e := s.Call(r); got != want || e != api.OK {
		t.Fatalf("P17.2: Call(%.200v): %v, %d, want %v", fmt.Sprint(r), got, e, want)
	}
}

// refusesCall asks for an error, no id, and a session that is as it was.
func refusesCall(t testing.TB, s *session.Session, r api.Request, want api.Errno) {
	t.Helper()
	unchanged(t, "a Call that is refused", s, func() {
		if got, e := s.Call(r); got != (api.Id{}) || e != want {
			t.Errorf("P17.2: Call(%.200v): %v, %d, want none, %d", fmt.Sprint(r), got, e, want)
		}
	})
}

// takes asks for what a message is answered.
func takes(t testing.TB, s *session.Session, m api.Message, want api.Errno) {
	t.Helper()
	if got := s.Take(m); got != want {
		t.Errorf("P17.4: Take(%s): %d, want %d", tellMessage(m), got, want)
	}
}

// turnsNothing asks for what a message is answered, and a session that is as it was.
func turnsNothing(t testing.TB, s *session.Session, m api.Message, want api.Errno) {
	t.Helper()
	unchanged(t, fmt.Sprintf("a message of kind %d", m.Kind), s, func() { takes(t, s, m, want) })
}

// unchanged asks that a call leaves all that can be seen as it was.
func unchanged(t testing.TB, what string, s *session.Session, call func()) {
	t.Helper()
	was := seen(s)
	call()
	if now := seen(s); now != was {
		t.Errorf("R3, P17.6: %s has turned\n%s\ninto\n%s", what, was, now)
	}
}

// waits asks for the ids that wait.
func waits(t testing.TB, what string, s *session.Session, want []api.Id) {
	t.Helper()
	if got := s.Waiting(); !slices.Equal(got, want) {
		t.Errorf("P17.5: %s: Waiting: %v, want %v", what, got, want)
	}
}

// isDone asks for the ids that are answered.
func isDone(t testing.TB, what string, s *session.Session, want []api.Id) {
	t.Helper()
	if got := s.Done(); !slices.Equal(got, want) {
		t.Errorf("P17.5: %s: Done: %v, want %v", what, got, want)
	}
}

// isBusy asks for the last refusal, and how many there were.
func isBusy(t testing.TB, s *session.Session, of api.Id, want api.Errno, many int) {
	t.Helper()
	if e, n := s.Busy(of); e != want || n != many {
		t.Errorf("P17.5: Busy(%v): %d, %d, want %d, %d", of, e, n, want, many)
	}
}

// isAnswered asks for an answer.
func isAnswered(t testing.TB, s *session.Session, want api.Answer) {
	t.Helper()
	if a, ok := s.Answer(want.Id); !ok || tellAnswer(a) != tellAnswer(want) {
		t.Errorf("P17.5: Answer(%v): %s, %v, want %s", want.Id, tellAnswer(a), ok, tellAnswer(want))
	}
}

// hasNoAnswer asks for none.
func hasNoAnswer(t testing.TB, s *session.Session, of api.Id) {
	t.Helper()
	if a, ok := s.Answer(of); ok || tellAnswer(a) != tellAnswer(api.Answer{}) {
		t.Errorf("P17.5: Answer(%v): %s, %v, want none", of, tellAnswer(a), ok)
	}
}

// isOut asks for what goes out: of each of these requests, in this order.
func isOut(t testing.TB, what string, s *session.Session, want ...api.Request) {
	t.Helper()
	var first, second []api.Message
	for _, r := range want {
		first = append(first, api.Message{Kind: api.MsgRequest, Request: r})
		second = append(second, api.Message{Kind: api.MsgAsk, Id: r.Id})
	}
	head, tail := s.Out()
	if len(head) != len(tail) {
		t.Errorf("P17.3: %s: %d messages to the head, %d to the tail", what, len(head), len(tail))
	}
	if got, right := tellMessages(head), tellMessages(first); got != right {
		t.Errorf("P17.3: %s: to the head\n%s, want\n%s", what, got, right)
	}
	if got, right := tellMessages(tail), tellMessages(second); got != right {
		t.Errorf("P17.3: %s: to the tail\n%s, want\n%s", what, got, right)
	}
}

// with tells a request with an id.
func with(r api.Request, of api.Id) api.Request {
	r.Id = of
	return r
}

// seen tells all that can be seen of a session, that has called few.
func seen(s *session.Session) string {
	var b strings.Builder
	head, tail := s.Out()
	fmt.Fprintln(&b, s.Waiting(), s.Done(), tellMessages(head), tellMessages(tail))
	for _, of := range s.Waiting() {
		e, n := s.Busy(of)
		fmt.Fprintln(&b, of, int(e), n)
	}
	for _, of := range s.Done() {
		a, ok := s.Answer(of)
		fmt.Fprintln(&b, of, tellAnswer(a), ok)
	}
	return b.String()
}

// The texts of things: those of two are one just if all their parts are, numbers by their bits; nil and an empty list are one.

func tellFields(l []api.Field) string {
	var b strings.Builder
	for _, f := range l {
		fmt.Fprintf(&b, "{%q %d %q %#x %d}", f.Name, f.Kind, f.Text, math.Float32bits(f.Value), f.Unit)
	}
	return b.String()
}

func tellAnswer(a api.Answer) string {
	return fmt.Sprint(a.Id, a.Code, a.Record, a.Version, "fields", tellFields(a.Fields), "history", a.History)
}

func tellRequest(r api.Request) string {
	return fmt.Sprintf("%v %d %d %d %d %d %d fields %s reason %q", r.Id, r.Actor, r.Op, r.Record, r.Version, r.Ward, r.Owner, tellFields(r.Fields), r.Reason)
}

func tellMessage(m api.Message) string {
	ev := m.Event
	return fmt.Sprint("kind ", m.Kind, "; ", tellRequest(m.Request), "; ", m.Id, "; ", tellAnswer(m.Answer), "; ", m.Code, "; ", ev.Place, tellRequest(ev.Request), ev.Code, ev.Digest, "; ", m.Length)
}

func tellMessages(l []api.Message) string {
	var b strings.Builder
	for _, m := range l {
		b.WriteString(tellMessage(m) + "\n")
	}
	return b.String()
}
