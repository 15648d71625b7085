package session_test

import (
	"fmt"
	"math"
	"testing"

	"almoner/api"
)

// cluttered tells a message with something in each part that its kind does not use, ids too.
func cluttered(m api.Message) api.Message {
	m.Request = with(creates(), id(3, 2))
	m.Event = api.Event{Place: 4, Request: reads(1), Code: 200, Digest: []byte{1}}
	m.Length = 77
	if m.Kind != api.MsgAnswer {
		m.Answer = api.Answer{Id: id(3, 2), Code: 9, Fields: []api.Field{text("b", "y")}}
	}
	if m.Kind != api.MsgBusy {
		m.Id, m.Code = id(3, 2), 6
	}
	return m
}

// TestTakeOfKinds: all but two are refused, whatever they have beside.
func TestTakeOfKinds(t *testing.T) {
	s := standing(t, 3, 2)
	takes(t, s, answer(id(3, 2), 1), api.OK)
	for kind := range 256 {
		if kind == api.MsgAnswer || kind == api.MsgBusy {
			continue
		}
		m := api.Message{Kind: uint8(kind), Id: id(3, 1), Code: 5, Answer: answer(id(3, 1), 4).Answer}
		turnsNothing(t, s, m, api.EARG)
		m.Id, m.Answer.Id = id(9, 9), id(3, 7)
		turnsNothing(t, s, m, api.EARG)
		turnsNothing(t, s, cluttered(m), api.EARG)
		turnsNothing(t, s, api.Message{Kind: uint8(kind)}, api.EARG)
	}
}

// TestTakeOfIdsThatWereNotCalled: other clients', the number 0, and numbers that come later.
func TestTakeOfIdsThatWereNotCalled(t *testing.T) {
	s := standing(t, 3, 2)
	takes(t, s, answer(id(3, 1), 1), api.OK)
	for _, of := range []api.Id{{}, id(3, 0), id(3, 3), id(3, 4), id(3, 257), id(3, 1<<16+1), id(3, 1<<31), id(3, most32), id(2, 1), id(4, 2), id(19, 1), id(259, 1), id(most32, 1), id(0, 1), id(1, 3)} {
		for _, m := range []api.Message{answer(of, 1), busy(of, api.EFULL), {Kind: api.MsgAnswer, Answer: api.Answer{Id: of}}, {Kind: api.MsgBusy, Id: of}} {
			turnsNothing(t, s, m, api.ENONE)
			turnsNothing(t, s, cluttered(m), api.ENONE)
		}
	}
	gets(t, s, reads(1), id(3, 3))
	takes(t, s, busy(id(3, 3), api.EOFF), api.OK)
	takes(t, s, answer(id(3, 3), 5), api.OK)
	isDone(t, "the one that was called later", s, ids(3, 1, 3))
}

// TestTakeLooksAtItsOwnIdAlone: of an answer at the Answer's, of a refusal at the message's.
func TestTakeLooksAtItsOwnIdAlone(t *testing.T) {
	s := standing(t, 3, 3)
	takes(t, s, cluttered(answer(id(3, 1), 8)), api.OK) // beside it stands the id 2
	isDone(t, "an answer with another id beside it", s, ids(3, 1))
	isAnswered(t, s, answer(id(3, 1), 8).Answer)
	isBusy(t, s, id(3, 2), api.OK, 0)
	takes(t, s, cluttered(busy(id(3, 3), api.EFULL)), api.OK)
	isDone(t, "a refusal with an answer beside it", s, ids(3, 1))
	isBusy(t, s, id(3, 3), api.EFULL, 1)
	isBusy(t, s, id(3, 2), api.OK, 0)
	turnsNothing(t, s, cluttered(answer(id(3, 1), 8)), api.OK)
	turnsNothing(t, s, answer(id(3, 1), 8), api.OK)
	turnsNothing(t, s, cluttered(answer(id(3, 1), 7)), api.EBROKEN)
}

// TestBusyOfARequestThatWaits: the last Code, of all that there are, and how many.
func TestBusyOfARequestThatWaits(t *testing.T) {
	s := standing(t, 0, 2)
	for n, code := range []uint8{5, 2, 6, 255, 1, 15, 16, 0, 5, 5, 0, 128} {
		takes(t, s, api.Message{Kind: api.MsgBusy, Id: id(0, 2), Code: code}, api.OK)
		isBusy(t, s, id(0, 2), api.Errno(code), n+1)
		isBusy(t, s, id(0, 1), api.OK, 0)
	}
	for code := range 256 {
		takes(t, s, api.Message{Kind: api.MsgBusy, Id: id(0, 1), Code: uint8(code)}, api.OK)
		isBusy(t, s, id(0, 1), api.Errno(code), code+1)
	}
	waits(t, "T1: busy is no answer", s, ids(0, 1, 2))
	isDone(t, "T1: busy is no answer", s, nil)
	hasNoAnswer(t, s, id(0, 1))
}

// TestBusyOfARequestThatIsAnswered: it comes too late, and what was counted is gone.
func TestBusyOfARequestThatIsAnswered(t *testing.T) {
	s := standing(t, 0, 2)
	takes(t, s, busy(id(0, 1), api.EFULL), api.OK)
	takes(t, s, answer(id(0, 1), 3), api.OK)
	isBusy(t, s, id(0, 1), api.OK, 0)
	for _, why := range []api.Errno{api.EFULL, api.OK, api.EOFF, 255} {
		turnsNothing(t, s, busy(id(0, 1), why), api.OK)
		isBusy(t, s, id(0, 1), api.OK, 0)
	}
	isAnswered(t, s, answer(id(0, 1), 3).Answer)
	waits(t, "late refusals", s, ids(0, 2))
}

// nan tells a value that is no number, of these bits.
func nan(bits uint32) float32 { return math.Float32frombits(0x7f800000 | bits) }

// full is an answer with all its parts.
func full(of api.Id) api.Answer {
	return api.Answer{
		Id: of, Code: 4, Record: 2, Version: 3,
		Fields: []api.Field{
			{Name: "a", Kind: api.FieldText, Text: "x"},
			{Name: "b", Kind: api.FieldQuantity, Text: "y", Value: 37, Unit: 11},
			{Name: "c", Kind: api.FieldQuantity, Value: nan(1), Unit: 11},
			{Name: "d", Kind: api.FieldQuantity, Value: 0, Unit: 1},
		},
		History: []api.Summary{{Author: 1, Event: 2, Fields: 3}, {Author: 4, Event: 5, Fields: 6, Redacted: true}},
	}
}

// turns are all single parts of an answer, each turned.
func turns() map[string]func(a *api.Answer) {
	l := map[string]func(a *api.Answer){
		"the code":                   func(a *api.Answer) { a.Code++ },
		"the code, by much":          func(a *api.Answer) { a.Code = 255 },
		"the record":                 func(a *api.Answer) { a.Record++ },
		"the record's highest bit":   func(a *api.Answer) { a.Record ^= 1 << 31 },
		"the version":                func(a *api.Answer) { a.Version-- },
		"no fields":                  func(a *api.Answer) { a.Fields = nil },
		"a field less":               func(a *api.Answer) { a.Fields = a.Fields[:3] },
		"the first field less":       func(a *api.Answer) { a.Fields = a.Fields[1:] },
		"a field more":               func(a *api.Answer) { a.Fields = append(a.Fields, api.Field{}) },
		"two fields change places":   func(a *api.Answer) { a.Fields[0], a.Fields[1] = a.Fields[1], a.Fields[0] },
		"no number of other bits":    func(a *api.Answer) { a.Fields[2].Value = nan(3) },
		"no number, a quiet one":     func(a *api.Answer) { a.Fields[2].Value = nan(1 | 1<<22) },
		"no number with a minus":     func(a *api.Answer) { a.Fields[2].Value = nan(1 | 1<<31) },
		"endless for no number":      func(a *api.Answer) { a.Fields[2].Value = nan(0) },
		"-0 for 0":                   func(a *api.Answer) { a.Fields[3].Value = minusZero },
		"the least bit of a value":   func(a *api.Answer) { a.Fields[1].Value = math.Nextafter32(37, 38) },
		"no history":                 func(a *api.Answer) { a.History = nil },
		"a summary less":             func(a *api.Answer) { a.History = a.History[:1] },
		"a summary more":             func(a *api.Answer) { a.History = append(a.History, api.Summary{}) },
		"two summaries change place": func(a *api.Answer) { a.History[0], a.History[1] = a.History[1], a.History[0] },
	}
	for i := range 4 {
		of := fmt.Sprintf("of the field %d ", i)
		l[of+"the name"] = func(a *api.Answer) { a.Fields[i].Name += "z" }
		l[of+"no name"] = func(a *api.Answer) { a.Fields[i].Name = "" }
		l[of+"the kind"] = func(a *api.Answer) { a.Fields[i].Kind++ }
		l[of+"the text"] = func(a *api.Answer) { a.Fields[i].Text += "z" }
		l[of+"the value"] = func(a *api.Answer) { a.Fields[i].Value = 36 }
		l[of+"the unit"] = func(a *api.Answer) { a.Fields[i].Unit++ }
	}
	for i := range 2 {
		of := fmt.Sprintf("of the summary %d ", i)
		l[of+"the author"] = func(a *api.Answer) { a.History[i].Author++ }
		l[of+"the event"] = func(a *api.Answer) { a.History[i].Event++ }
		l[of+"the fields"] = func(a *api.Answer) { a.History[i].Fields++ }
		l[of+"redacted"] = func(a *api.Answer) { a.History[i].Redacted = !a.History[i].Redacted }
	}
	return l
}

// TestASecondAnswer: the same turns nothing, and one that differs in any one part is told, and turns nothing either.
func TestASecondAnswer(t *testing.T) {
	s := standing(t, 1, 3)
	message := func(a api.Answer) api.Message { return api.Message{Kind: api.MsgAnswer, Answer: a} }
	takes(t, s, message(full(id(1, 2))), api.OK)
	for what, turn := range turns() {
		other := full(id(1, 2))
		turn(&other)
		if tellAnswer(other) == tellAnswer(full(id(1, 2))) {
			t.Fatalf("%s turns nothing", what)
		}
		t.Run(what, func(t *testing.T) {
			turnsNothing(t, s, message(other), api.EBROKEN)
			turnsNothing(t, s, message(full(id(1, 2))), api.OK)
			turned := standing(t, 1, 2)
			takes(t, turned, message(other), api.OK)
			isAnswered(t, turned, other)
			turnsNothing(t, turned, message(other), api.OK)
			turnsNothing(t, turned, message(full(id(1, 2))), api.EBROKEN)
			isAnswered(t, turned, other)
		})
	}
	isAnswered(t, s, full(id(1, 2)))
	takes(t, s, message(full(id(1, 3))), api.OK) // another id is another request
	isAnswered(t, s, full(id(1, 3)))
	isDone(t, "two", s, ids(1, 2, 3))
}

// TestListsNilAndEmptyAreOne in answers.
func TestListsNilAndEmptyAreOne(t *testing.T) {
	of := id(1, 1)
	lists := []api.Answer{
		{Id: of},
		{Id: of, Fields: []api.Field{}},
		{Id: of, History: []api.Summary{}},
		{Id: of, Fields: make([]api.Field, 0, 9), History: make([]api.Summary, 0, 9)},
	}
	for _, first := range lists {
		s := standing(t, 1, 1)
		takes(t, s, api.Message{Kind: api.MsgAnswer, Answer: first}, api.OK)
		for _, again := range lists {
			turnsNothing(t, s, api.Message{Kind: api.MsgAnswer, Answer: again}, api.OK)
		}
		turnsNothing(t, s, api.Message{Kind: api.MsgAnswer, Answer: api.Answer{Id: of, Fields: make([]api.Field, 1)}}, api.EBROKEN)
		turnsNothing(t, s, api.Message{Kind: api.MsgAnswer, Answer: api.Answer{Id: of, History: make([]api.Summary, 1)}}, api.EBROKEN)
		isAnswered(t, s, api.Answer{Id: of})
	}
}

// TestAnswersWithoutAForm are taken: what a message says is not judged.
func TestAnswersWithoutAForm(t *testing.T) {
	s := standing(t, 1, 6)
	odd := []api.Answer{
		{Code: 255}, {Code: api.NoForm, Record: 1}, {Fields: []api.Field{gone("b"), gone("a"), gone("a")}},
		{Fields: make([]api.Field, api.MaxFields+1)}, {History: make([]api.Summary, api.MaxVersions+1)},
		{Fields: []api.Field{{Value: nan(1<<22 | 5)}, {Value: nan(7)}, {Value: minusZero}}},
	}
	for i, a := range odd {
		a.Id = id(1, uint32(i+1))
		takes(t, s, api.Message{Kind: api.MsgAnswer, Answer: a}, api.OK)
		isAnswered(t, s, a)
		turnsNothing(t, s, api.Message{Kind: api.MsgAnswer, Answer: a}, api.OK)
		a.Version++
		turnsNothing(t, s, api.Message{Kind: api.MsgAnswer, Answer: a}, api.EBROKEN)
	}
}
