package session_test

import (
	"testing"

	"almoner/api"
)

// TestTellOfIds: of each that waits, is answered, and is none.
func TestTellOfIds(t *testing.T) {
	s := standing(t, 6, 5)
	takes(t, s, busy(id(6, 4), api.EFULL), api.OK)
	takes(t, s, busy(id(6, 1), api.ELIMIT), api.OK)
	takes(t, s, busy(id(6, 1), api.EOFF), api.OK)
	takes(t, s, api.Message{Kind: api.MsgAnswer, Answer: full(id(6, 4))}, api.OK)
	takes(t, s, answer(id(6, 2), 9), api.OK)
	takes(t, s, api.Message{Kind: api.MsgAnswer, Answer: api.Answer{Id: id(6, 5)}}, api.OK)

	waits(t, "two", s, ids(6, 1, 3))
	isDone(t, "three, as they came", s, ids(6, 4, 2, 5))
	isAnswered(t, s, full(id(6, 4)))
	isAnswered(t, s, answer(id(6, 2), 9).Answer)
	isAnswered(t, s, api.Answer{Id: id(6, 5)}) // one that has nothing but its id is an answer
	isBusy(t, s, id(6, 1), api.EOFF, 2)
	for _, n := range []uint32{2, 3, 4, 5} {
		isBusy(t, s, id(6, n), api.OK, 0)
	}
	for _, of := range []api.Id{id(6, 1), id(6, 3)} {
		hasNoAnswer(t, s, of)
	}
	for _, of := range []api.Id{{}, id(6, 0), id(6, 6), id(6, 1<<31), id(6, most32), id(0, 1), id(5, 4), id(7, 4), id(22, 4), id(most32, 4)} {
		hasNoAnswer(t, s, of)
		isBusy(t, s, of, api.OK, 0)
	}
}

// TestOrders: the calls' of what waits, the answers' of what is done, whatever comes twice.
func TestOrders(t *testing.T) {
	s := standing(t, 0, 300)
	var done []api.Id
	for i := range uint32(300) {
		of := id(0, i*7%300+1)
		if i%3 == 1 {
			continue
		}
		takes(t, s, answer(of, i), api.OK)
		done = append(done, of)
		if i%5 == 0 {
			takes(t, s, answer(done[0], 0), api.OK)
			takes(t, s, answer(of, i+1), api.EBROKEN)
		}
	}
	isDone(t, "as they came", s, done)
	answered := map[api.Id]int{}
	for _, of := range done {
		answered[of]++
	}
	var left []api.Id
	for n := range uint32(300) {
		if of := id(0, n+1); answered[of] == 0 {
			left = append(left, of)
		}
	}
	waits(t, "as they were called", s, left)
	gets(t, s, creates(), id(0, 301))
	waits(t, "one more", s, append(left, id(0, 301)))
}

// TestTellingTurnsNothing: each is told again and again alike.
func TestTellingTurnsNothing(t *testing.T) {
	s := standing(t, 0, 9)
	for _, n := range []uint32{5, 2, 7} {
		takes(t, s, busy(id(0, n), api.EFULL), api.OK)
		takes(t, s, answer(id(0, n), n), api.OK)
		takes(t, s, busy(id(0, n+1), api.EFULL), api.OK)
	}
	was := seen(s)
	for range 20 {
		if now := seen(s); now != was {
			t.Fatalf("P17.5: told again:\n%s\nwas\n%s", now, was)
		}
	}
}
