package session_test

import (
	"fmt"
	"runtime"
	"strings"
	"testing"

	"almoner/api"
	"almoner/session"
)

var (
	oddField   = api.Field{Name: "odd", Kind: 77, Text: "odd", Value: 77, Unit: 77}
	oddSummary = api.Summary{Author: 77, Event: 77, Fields: 77, Redacted: true}
	oddId      = api.Id{Client: 77, Number: 77}
)

// scribble writes over a list and its spare room.
func scribble[T any](l []T, odd T) {
	l = l[:cap(l)]
	for i := range l {
		l[i] = odd
	}
}

// spoil writes over all lists of what Out tells, and over itself.
func spoil(l []api.Message) {
	l = l[:cap(l)]
	for i := range l {
		scribble(l[i].Request.Fields, oddField)
		l[i] = api.Message{Kind: 77, Id: oddId}
	}
}

// roomy tells a list of so many, ahead of spare room that is filled.
func roomy[T any](n int, v, spare T) (list, whole []T) {
	for i := range n + 5 {
		whole = append(whole, v)
		if i >= n {
			whole[i] = spare
		}
	}
	return whole[:n], whole
}

// spoilAll writes over all that a session tells.
func spoilAll(s *session.Session) {
	head, tail := s.Out()
	spoil(head)
	spoil(tail)
	scribble(s.Waiting(), oddId)
	scribble(s.Done(), oddId)
	for _, of := range s.Done() {
		a, _ := s.Answer(of)
		scribble(a.Fields, oddField)
		scribble(a.History, oddSummary)
	}
}

// TestRequestsThatAreHandedInAreNotChangedAndNotKept: lists with spare room, written over behind the call; refused ones, too.
func TestRequestsThatAreHandedInAreNotChangedAndNotKept(t *testing.T) {
	for _, n := range []int{0, 1} {
		for _, op := range []uint8{api.OpCreate, api.OpAmend, api.OpBreak, 9} {
			fields, whole := roomy(n, text("a", "x"), oddField)
			was := tellFields(whole)
			s := made(t, 0)
			s.Call(api.Request{Op: op, Fields: fields})
			after := seen(s)
			spoilAll(s)
			if tellFields(whole) != was {
				t.Errorf("R4: op %d, %d fields: Call has changed its list: %s", op, n, tellFields(whole))
			}
			scribble(fields, oddField)
			if now := seen(s); now != after {
				t.Errorf("R4: op %d, %d fields: Call has kept its list:\n%s, was\n%s", op, n, now, after)
			}
		}
	}
}

// TestAnswersThatAreHandedInAreNotChangedAndNotKept: of those that are taken, the same, others, and of kinds and ids that are refused.
func TestAnswersThatAreHandedInAreNotChangedAndNotKept(t *testing.T) {
	for _, n := range []int{0, 1, 3} {
		for _, kind := range []uint8{api.MsgAnswer, api.MsgBusy, api.MsgHave} {
			for _, number := range []uint32{1, 2, 3} { // one that waits, one that is answered, none
				s := standing(t, 0, 2)
				takes(t, s, answer(id(0, 2), 1), api.OK)
				fields, allFields := roomy(n, text("a", "x"), oddField)
				history, allHistory := roomy(n, api.Summary{Author: 1}, oddSummary)
				was := fmt.Sprint(tellFields(allFields), allHistory)
				of := id(0, number)
				s.Take(api.Message{Kind: kind, Id: of, Answer: api.Answer{Id: of, Fields: fields, History: history}})
				after := seen(s)
				spoilAll(s)
				if now := fmt.Sprint(tellFields(allFields), allHistory); now != was {
					t.Errorf("R4: Take of %d of %v, has changed its lists: %s", kind, of, now)
				}
				scribble(fields, oddField)
				scribble(history, oddSummary)
				if now := seen(s); now != after {
					t.Errorf("R4: Take of %d of %v has kept its lists:\n%s, was\n%s", kind, of, now, after)
				}
			}
		}
	}
}

// TestWhatIsToldIsNew writes over all that is told: nothing of it is what the session keeps.
func TestWhatIsToldIsNew(t *testing.T) {
	s := standing(t, 0, 12)
	for _, n := range []uint32{4, 9, 2, 7, 1} {
		takes(t, s, api.Message{Kind: api.MsgAnswer, Answer: full(id(0, n))}, api.OK)
		was := seen(s)
		spoilAll(s)
		if now := seen(s); now != was {
			t.Fatalf("R4: what was told is what is kept:\n%s, was\n%s", now, was)
		}
		turnsNothing(t, s, api.Message{Kind: api.MsgAnswer, Answer: full(id(0, n))}, api.OK)
	}
}

// TestNoTwoListsOfOneAnswerShare: both lists of Out, and each request's within it, the spare room too; those of requests that were called with one list, too.
func TestNoTwoListsOfOneAnswerShare(t *testing.T) {
	for _, n := range []int{1, 2, 3, 5, 9, 32} {
		s := made(t, 0)
		fields := many(n)
		for i := range 20 {
			gets(t, s, api.Request{Op: api.OpCreate, Fields: fields}, id(0, uint32(i+1)))
		}
		head, tail := s.Out()
		for i := range head {
			scribble(head[i].Request.Fields, api.Field{Name: fmt.Sprint(i)})
		}
		for i := range head {
			l := head[i].Request.Fields
			for _, f := range l[:cap(l)] {
				if f.Name != fmt.Sprint(i) {
					t.Fatalf("R4: two lists of one Out share memory: %v", f)
				}
			}
		}
		spoil(head)
		if want := tellMessages(asks(20)); tellMessages(tail) != want {
			t.Fatalf("R4: both lists of Out share memory: %s", tellMessages(tail))
		}
	}
}

// asks tells what goes to the tail of so many requests of the client 0.
func asks(n int) []api.Message {
	var l []api.Message
	for i := range n {
		l = append(l, api.Message{Kind: api.MsgAsk, Id: id(0, uint32(i+1))})
	}
	return l
}

// TestWhatWasToldStays: answers are not changed by what comes later, and none by what is done to another.
func TestWhatWasToldStays(t *testing.T) {
	s := standing(t, 0, 6)
	takes(t, s, api.Message{Kind: api.MsgAnswer, Answer: full(id(0, 3))}, api.OK)
	head, tail := s.Out()
	waiting, done := s.Waiting(), s.Done()
	a, _ := s.Answer(id(0, 3))
	tell := func() string {
		return fmt.Sprint(tellMessages(head), tellMessages(tail), waiting, done, tellAnswer(a))
	}
	was := tell()
	spoilAll(s)
	_ = append(s.Done(), oddId)
	_ = append(s.Waiting(), oddId)
	for _, n := range []uint32{6, 1, 2, 5, 4} {
		takes(t, s, answer(id(0, n), n), api.OK)
		gets(t, s, reads(n), id(0, uint32(len(s.Done()))+5))
		spoilAll(s)
	}
	takes(t, s, answer(id(0, 3), 77), api.EBROKEN)
	if now := tell(); now != was {
		t.Errorf("R4: what was told has changed:\n%s, was\n%s", now, was)
	}
	isDone(t, "R4: a list that was told is appended to", s, ids(0, 3, 6, 1, 2, 5, 4))
}

// TestTwoSessionsHaveNothingInCommon, of one client or of two: one goes through all, the other stays what it was.
func TestTwoSessionsHaveNothingInCommon(t *testing.T) {
	for _, client := range []uint32{3, 4} {
		s, other := made(t, 3), made(t, client)
		r := creates()
		gets(t, s, r, id(3, 1))
		gets(t, other, r, id(client, 1))
		gets(t, other, r, id(client, 2))
		takes(t, other, answer(id(client, 1), 5), api.OK)
		takes(t, other, busy(id(client, 2), api.EOFF), api.OK)
		was := seen(other)
		waits(t, "R5: another session", s, ids(3, 1))
		hasNoAnswer(t, s, id(3, 1))
		turnsNothing(t, s, answer(id(3, 2), 1), api.ENONE)
		gets(t, s, r, id(3, 2))
		takes(t, s, answer(id(3, 2), 9), api.OK)
		takes(t, s, answer(id(3, 1), 8), api.OK)
		takes(t, s, answer(id(3, 1), 5), api.EBROKEN)
		gets(t, s, r, id(3, 3))
		spoilAll(s)
		if now := seen(other); now != was {
			t.Errorf("R5: another session has turned\n%s\ninto\n%s", was, now)
		}
	}
}

// heap tells how many bytes are in use.
func heap() uint64 {
	var m runtime.MemStats
	runtime.GC()
	runtime.ReadMemStats(&m)
	return m.HeapAlloc
}

// TestLittleIsKept: of lists that are pieces of longer ones the piece alone; of what is refused, told again, or answered nothing; of refusals the last one.
func TestLittleIsKept(t *testing.T) {
	s := made(t, 0)
	was := heap()
	for n := uint32(1); n <= 100; n++ {
		gets(t, s, api.Request{Op: api.OpCreate, Fields: make([]api.Field, 1<<16)[:0]}, id(0, n))
		s.Call(api.Request{Op: api.OpCreate, Fields: make([]api.Field, 1<<16)})
		m := answer(id(0, n), n)
		m.Answer.Fields, m.Answer.History = make([]api.Field, 1<<16)[:n/2%2], make([]api.Summary, 1<<16)[:n/2%2]
		if n%2 == 0 {
			takes(t, s, m, api.OK)
			m.Answer.Fields = make([]api.Field, 1<<16)
			takes(t, s, m, api.EBROKEN)
		}
		for range 1000 {
			takes(t, s, busy(id(0, n), api.EFULL), api.OK)
		}
	}
	if now := heap(); now > was+1<<20 {
		t.Errorf("language rule 8: %d bytes are kept of 100 requests", now-was)
	}
	isBusy(t, s, id(0, 99), api.EFULL, 1000)
	runtime.KeepAlive(s)
}

// TestOfAnAnsweredRequestNothingIsKept but its answer.
func TestOfAnAnsweredRequestNothingIsKept(t *testing.T) {
	s := made(t, 0)
	was := heap()
	for n := uint32(1); n <= api.MaxEvents; n++ {
		var fields []api.Field
		for i := range api.MaxFields {
			fields = append(fields, text(fmt.Sprintf("n%02d", i), strings.Repeat("x", api.MaxText)))
		}
		gets(t, s, api.Request{Op: api.OpCreate, Fields: fields}, id(0, n))
		takes(t, s, answer(id(0, n), n), api.OK)
	}
	if now := heap(); now > was+2<<20 {
		t.Errorf("language rule 8: %d bytes are kept of %d requests that are answered", now-was, api.MaxEvents)
	}
	runtime.KeepAlive(s)
}
