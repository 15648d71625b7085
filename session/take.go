package session

import "almoner/api"

// Take takes a message in.
func (s *Session) Take(m api.Message) api.Errno {
	switch m.Kind {
	case api.MsgAnswer:
		return s.takeAnswer(m.Answer)
	case api.MsgBusy:
		return s.takeBusy(m.Id, api.Errno(m.Code))
	}
	return api.EARG
}

// takeAnswer lets the first answer of a request be its answer; a later one may only say the same.
func (s *Session) takeAnswer(a api.Answer) api.Errno {
	if _, waits := s.waiting[a.Id]; waits {
		delete(s.waiting, a.Id)
		s.answered[a.Id] = ownAnswer(a)
		s.done = append(s.done, a.Id)
		return api.OK
	}
	first, isAnswered := s.answered[a.Id]
	switch {
	case !isAnswered:
		return api.ENONE
	case !sameAnswer(first, a):
		return api.EBROKEN
	}
	return api.OK
}

// takeBusy counts a refusal of a request that waits; behind its answer it comes too late to say anything.
func (s *Session) takeBusy(id api.Id, why api.Errno) api.Errno {
	if c, waits := s.waiting[id]; waits {
		c.last, c.refusals = why, c.refusals+1
		s.waiting[id] = c
		return api.OK
	}
	if _, isAnswered := s.answered[id]; !isAnswered {
		return api.ENONE
	}
	return api.OK
}
