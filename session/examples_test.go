package session_test

import (
	"testing"

	"almoner/api"
	"almoner/session"
)

// TestExamples is the chapter's table, row by row.
func TestExamples(t *testing.T) {
	if s, e := session.New(16); s != nil || e != api.EARG {
		t.Errorf("P17.1: New(16): %v, %d", s, e)
	}
	s := made(t, 3)
	refusesCall(t, s, api.Request{}, api.EARG)
	gets(t, s, creates(), id(3, 1))
	gets(t, s, creates(), id(3, 2))

	isOut(t, "two wait", s, with(creates(), id(3, 1)), with(creates(), id(3, 2)))

	takes(t, s, busy(id(3, 2), api.EFULL), api.OK)
	isBusy(t, s, id(3, 2), api.EFULL, 1)
	isBusy(t, s, id(3, 9), api.OK, 0)

	takes(t, s, answer(id(3, 2), 1), api.OK)
	turnsNothing(t, s, answer(id(3, 2), 1), api.OK)
	turnsNothing(t, s, answer(id(3, 2), 2), api.EBROKEN)

	turnsNothing(t, s, answer(id(3, 5), 1), api.ENONE)
	turnsNothing(t, s, answer(id(2, 1), 1), api.ENONE)
	turnsNothing(t, s, api.Message{Kind: api.MsgHave}, api.EARG)

	waits(t, "at the end", s, ids(3, 1))
	isDone(t, "at the end", s, ids(3, 2))
	isAnswered(t, s, api.Answer{Id: id(3, 2), Code: api.Done, Record: 1, Version: 1})
	hasNoAnswer(t, s, id(3, 1))
	isBusy(t, s, id(3, 2), api.OK, 0)
}
