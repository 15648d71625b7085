package session_test

// The chapter's words, read plainly: what the package is held against.

import (
	"almoner/api"
	"almoner/record"
	"almoner/wire"
)

// story is a request that was called, and what has come of it.
type story struct {
	id      api.Id
	request api.Request
	busy    []uint8     // the refusals, one behind the other
	answer  *api.Answer // nil as long as it waits
}

// plain is a session as the words say it: the stories of all requests in the order of the calls, and of the answered ones in that of the answers. All that is told is worked out of them.
type plain struct {
	client uint32
	all    []*story
	done   []*story
}

func newPlain(client uint32) (*plain, api.Errno) {
	for c := range uint32(16) {
		if c == client {
			return &plain{client: client}, api.OK
		}
	}
	return nil, api.EARG
}

// formed asks both layers that know it.
func formed(r api.Request) bool {
	r.Id = api.Id{}
	_, err := wire.PutRequest(r)
	return err == nil && record.Formed(r)
}

// find tells the story of an id, or nil.
func (p *plain) find(of api.Id) *story {
	for _, s := range p.all {
		if s.id == of {
			return s
		}
	}
	return nil
}

func (p *plain) call(r api.Request) (api.Id, api.Errno) {
	if !formed(r) {
		return api.Id{}, api.EARG
	}
	if len(p.all) == 4096 {
		return api.Id{}, api.ELIMIT
	}
	r.Id = id(p.client, uint32(len(p.all)+1))
	p.all = append(p.all, &story{id: r.Id, request: r})
	return r.Id, api.OK
}

func (p *plain) take(m api.Message) api.Errno {
	isAnswer, isBusy := m.Kind == api.MsgAnswer, m.Kind == api.MsgBusy
	if !isAnswer && !isBusy {
		return api.EARG
	}
	of := m.Id
	if isAnswer {
		of = m.Answer.Id
	}
	s := p.find(of)
	if s == nil {
		return api.ENONE
	}
	waits := s.answer == nil
	switch {
	case isBusy && waits:
		s.busy = append(s.busy, m.Code)
	case isAnswer && waits:
		a := m.Answer
		s.answer = &a
		p.done = append(p.done, s)
	case isAnswer && tellAnswer(m.Answer) != tellAnswer(*s.answer):
		return api.EBROKEN
	}
	return api.OK
}

func (p *plain) out() (head, tail []api.Message) {
	for _, s := range p.all {
		if s.answer == nil {
			head = append(head, api.Message{Kind: api.MsgRequest, Request: s.request})
			tail = append(tail, api.Message{Kind: api.MsgAsk, Id: s.id})
		}
	}
	return head, tail
}

func (p *plain) waiting() []api.Id {
	var l []api.Id
	for _, s := range p.all {
		if s.answer == nil {
			l = append(l, s.id)
		}
	}
	return l
}

func (p *plain) answered() []api.Id {
	var l []api.Id
	for _, s := range p.done {
		l = append(l, s.id)
	}
	return l
}

func (p *plain) answer(of api.Id) (api.Answer, bool) {
	s := p.find(of)
	if s == nil || s.answer == nil {
		return api.Answer{}, false
	}
	return *s.answer, true
}

func (p *plain) busyOf(of api.Id) (api.Errno, int) {
	s := p.find(of)
	if s == nil || s.answer != nil || len(s.busy) == 0 {
		return api.OK, 0
	}
	return api.Errno(s.busy[len(s.busy)-1]), len(s.busy)
}
