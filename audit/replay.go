package audit

import (
	"bytes"

	"almoner/api"
	"almoner/record"
)

// Replay tells the answers of a log's requests; and the first event that does not tell its own, or -1.
func Replay(width int, staff []api.Staff, log []api.Event) (answers []api.Answer, bad int) {
	var requests []api.Request
	for _, e := range log {
		requests = append(requests, e.Request)
	}
	answers = record.Answers(staff, requests)
	for i, e := range log {
		if !isRight(width, uint32(i), e, answers[i]) {
			return answers, i
		}
	}
	return answers, -1
}

// isRight tells whether an event is the one of its request at a place, answered so.
func isRight(width int, place uint32, e api.Event, a api.Answer) bool {
	own, errno := record.Event(width, place, e.Request, a)
	return errno == api.OK && e.Place == own.Place && e.Code == own.Code && bytes.Equal(e.Digest, own.Digest)
}
