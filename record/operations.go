package record

import (
	"slices"

	"almoner/api"
	"almoner/policy"
)

// operation does a request that has a form, of somebody, and of a record that there is. It changes the state just if the answer's code is Done.
type operation func(s *State, r api.Request, place uint32) api.Answer

// operations tells how each Op is done.
func operations() map[uint8]operation {
	return map[uint8]operation{
		api.OpCreate:  (*State).create,
		api.OpAmend:   (*State).amend,
		api.OpRead:    (*State).read,
		api.OpRedact:  (*State).redact,
		api.OpHistory: (*State).history,
		api.OpSeal:    (*State).seal,
		api.OpBreak:   (*State).breakSeal,
	}
}

// refusal is an answer that tells nothing but why.
func refusal(code uint8) api.Answer {
	return api.Answer{Code: code}
}

func (s *State) create(r api.Request, place uint32) api.Answer {
	code := policy.Create(s.staff, r.Actor, r.Ward, r.Owner)
	switch {
	case code != api.Done:
		return refusal(code)
	case len(s.charts) >= api.MaxRecords:
		return refusal(api.TooMany)
	}
	first := version{author: r.Actor, event: place, fields: ownCopies(r.Fields)}
	s.charts = append(s.charts, chart{ward: r.Ward, owner: r.Owner, versions: []version{first}})
	return api.Answer{Record: uint32(len(s.charts)), Version: 1}
}

func (s *State) amend(r api.Request, place uint32) api.Answer {
	c := s.chart(r.Record)
	now := c.version(c.last()).fields
	fields := merged(now, r.Fields)
	code := policy.Amend(s.staff, c.sheet(), r.Actor, r.Fields)
	switch {
	case code != api.Done:
		return refusal(code)
	case !c.has(r.Version):
		return refusal(api.NoVersion)
	case r.Version != c.last():
		return refusal(api.Stale)
	case len(c.versions) >= api.MaxVersions || len(fields) > api.MaxFields:
		return refusal(api.TooMany)
	case remeasures(now, r.Fields):
		return refusal(api.BadUnit)
	}
	c.versions = append(c.versions, version{author: r.Actor, event: place, fields: fields})
	return api.Answer{Record: r.Record, Version: c.last()}
}

func (s *State) read(r api.Request, _ uint32) api.Answer {
	c := s.chart(r.Record)
	if r.Version == 0 {
		r.Version = c.last()
	}
	code := policy.Read(s.staff, c.sheet(), r.Actor)
	switch {
	case code != api.Done:
		return refusal(code)
	case !c.has(r.Version):
		return refusal(api.NoVersion)
	case c.version(r.Version).redacted:
		return refusal(api.IsRedacted)
	}
	return api.Answer{Record: r.Record, Version: r.Version, Fields: slices.Clone(c.version(r.Version).fields)}
}

func (s *State) redact(r api.Request, _ uint32) api.Answer {
	c := s.chart(r.Record)
	code := policy.Redact(s.staff, c.sheet(), r.Actor)
	switch {
	case code != api.Done:
		return refusal(code)
	case !c.has(r.Version):
		return refusal(api.NoVersion)
	case c.version(r.Version).redacted:
		return refusal(api.IsRedacted)
	}
	c.version(r.Version).redact()
	return api.Answer{Record: r.Record, Version: r.Version}
}

func (s *State) history(r api.Request, _ uint32) api.Answer {
	c := s.chart(r.Record)
	code := policy.History(s.staff, c.sheet(), r.Actor)
	if code != api.Done {
		return refusal(code)
	}
	a := api.Answer{Record: r.Record, Version: c.last()}
	for _, v := range c.versions {
		a.History = append(a.History, v.summary())
	}
	return a
}

func (s *State) seal(r api.Request, _ uint32) api.Answer {
	c := s.chart(r.Record)
	code := policy.Seal(s.staff, c.sheet(), r.Actor)
	if code != api.Done {
		return refusal(code)
	}
	c.sealed, c.granted = r.Version == 1, nil
	return api.Answer{Record: r.Record}
}

func (s *State) breakSeal(r api.Request, _ uint32) api.Answer {
	c := s.chart(r.Record)
	code := policy.Break(s.staff, c.sheet(), r.Actor, r.Reason)
	if code != api.Done {
		return refusal(code)
	}
	c.grant(r.Actor)
	return api.Answer{Record: r.Record}
}
