package session_test

import (
	"testing"

	"almoner/api"
	"almoner/wire"
)

// TestOutOfNoneOneAndMany: in the order of the calls, with answered ones between them.
func TestOutOfNoneOneAndMany(t *testing.T) {
	s := made(t, 5)
	isOut(t, "nothing is called", s)
	kinds := withForm()
	var left []api.Request
	for i := range uint32(60) {
		r := with(kinds[int(i)%len(kinds)], id(5, i+1))
		gets(t, s, r, r.Id)
		left = append(left, r)
	}
	isOut(t, "sixty wait", s, left...)
	for step := 0; len(left) > 0; step++ {
		i := step * 7 % len(left) // from the middle, from both ends
		takes(t, s, answer(left[i].Id, 1), api.OK)
		left = append(left[:i:i], left[i+1:]...)
		isOut(t, "some are answered", s, left...)
		isOut(t, "told again", s, left...)
	}
	isOut(t, "all are answered", s)
	gets(t, s, reads(3), id(5, 61))
	isOut(t, "one more is called", s, with(reads(3), id(5, 61)))
}

// TestOutIsNotTurnedByRefusals: what is busy is sent again.
func TestOutIsNotTurnedByRefusals(t *testing.T) {
	s := standing(t, 1, 3)
	for range 5 {
		takes(t, s, busy(id(1, 2), api.EFULL), api.OK)
		isOut(t, "one is busy", s, with(creates(), id(1, 1)), with(creates(), id(1, 2)), with(creates(), id(1, 3)))
	}
}

// TestOutOfAll: MaxEvents wait.
func TestOutOfAll(t *testing.T) {
	s := standing(t, 0, api.MaxEvents)
	head, tail := s.Out()
	if len(head) != api.MaxEvents || len(tail) != api.MaxEvents {
		t.Fatalf("P17.3: %d to the head, %d to the tail", len(head), len(tail))
	}
	for i := range head {
		of := id(0, uint32(i+1))
		if tellMessage(head[i]) != tellMessage(api.Message{Kind: api.MsgRequest, Request: with(creates(), of)}) || tellMessage(tail[i]) != tellMessage(api.Message{Kind: api.MsgAsk, Id: of}) {
			t.Fatalf("P17.3: %d: %s, %s", i, tellMessage(head[i]), tellMessage(tail[i]))
		}
	}
}

// TestWhatGoesOutHasAForm: a message that is told can be told as bytes, and read again.
func TestWhatGoesOutHasAForm(t *testing.T) {
	s := made(t, 7)
	for _, r := range withForm() {
		s.Call(r)
	}
	head, tail := s.Out()
	for _, m := range append(head, tail...) {
		b, err := wire.PutMessage(m)
		if err != nil {
			t.Fatalf("T1: %s: %v", tellMessage(m), err)
		}
		if again, err := wire.GetMessage(b); err != nil || tellMessage(again) != tellMessage(m) {
			t.Errorf("P17.3: %s is read as %s, %v", tellMessage(m), tellMessage(again), err)
		}
	}
}
